import Derived.Test.YtjgmnbfadnlikaaZC
set_option linter.unusedVariables false
set_option linter.unusedSimpArgs false
namespace Go.Proofs.Ytjgmnbfadnlikaa
open Go.RowKit
set_option maxRecDepth 100000 in
set_option maxHeartbeats 8000000 in
theorem MemSees_law (w : World) (m : MP) (sA fA : Option Addr) (sc fc : Nat) (aA : Option Addr) (aN aC : Nat) (l : List Ac) (att bb : Nat) (h : MpR w m sA fA sc fc) (hnc : aN ≤ aC) (hcm : aC ≤ maxLen) (hl : aN = l.length) (hs : Shows w 7 aA aN (l.flatMap Ac.vals)) (hok : ∀ a ∈ l, a.ok w) (hat : att < 256) (hbb : bb < 256) :
    Calls Try.prog 8 #[.agg #[.int .i64 m.ram, .slice sA m.segs.length sc, .slice fA m.flash.length fc], .slice aA aN aC, .int .u8 (att : Int), .int .u8 (bb : Int)] w fun e w' => e = .returned (.bool true) ∧ Ext w w' := by
  obtain ⟨w1, hw1⟩ : ∃ V, V = w.alloc (.cells #[.int .i64 m.ram, .slice sA m.segs.length sc, .slice fA m.flash.length fc] 25) := ⟨_, rfl⟩
  have K1 : w1.heap[w.heap.size]? = some (.cells #[.int .i64 m.ram, .slice sA m.segs.length sc, .slice fA m.flash.length fc] 25 (0, 0)) := by rw [hw1]; exact heap_alloc_new _ _
  have x1 : Ext w w1 := by rw [hw1]; exact (Ext.refl _).alloc _
  have HG := Lib.hid (fun W (x : Ext w W) => good_any (h.ext x))
  have HA := Lib.hid (And.intro hs hok)
  have HF := Lib.hid (fun W => few_any (w := W) aA aN aC hnc hcm)
  obtain ⟨an, han⟩ : ∃ an, an = min aN 60 := ⟨_, rfl⟩
  rw [← han] at HF
  have an60 : an ≤ 60 := by omega
  have HAN := Lib.hid (And.intro han hl)
  clear h hs hok hnc hcm han hl
  go_enter Try.func8, Try.ntmps8
  go_upto_region 1 with (fail)
  rw [← hw1]
  clear hw1
  go_upto_region 2 with (go_at_call 9; (refine (shown_any _).mono ?_); rintro e w2 ⟨rfl, x2⟩)
  have K2 := (x2.block _ (blk_lt K1)).trans K1
  go_upto_region 3 with (first | refine wpList_ldrow rfl 25 (.tmp 4) rfl K2 rfl Try.underlying25 rfl (by kernel_rfl) ?_ | (go_at_call 20; (refine (HG.out _ (x1.trans x2)).mono ?_); rintro e w3 ⟨sA3, sc3, rfl, x3, H3⟩))
  obtain ⟨rm, hrm⟩ : ∃ r, r = (m.good m.segs.length).ram := ⟨_, rfl⟩
  obtain ⟨gn, hgn⟩ : ∃ r, r = (m.good m.segs.length).segs.length := ⟨_, rfl⟩
  rw [← hrm, ← hgn]
  obtain ⟨w4, hw4⟩ : ∃ V, V = w3.alloc (.cells #[.int .i64 rm, .slice sA3 gn sc3, .slice none 0 0] 25) := ⟨_, rfl⟩
  have K4 : w4.heap[w3.heap.size]? = some (.cells #[.int .i64 rm, .slice sA3 gn sc3, .slice none 0 0] 25 (0, 0)) := by rw [hw4]; exact heap_alloc_new _ _
  have x4 : Ext w3 w4 := by rw [hw4]; exact (Ext.refl _).alloc _
  rw [← hw4]
  clear hw4
  have H4 := H3.ext x4
  have HRG := Lib.hid (show rm = (m.good m.segs.length).ram ∧ gn = (m.good m.segs.length).segs.length from ⟨hrm, hgn⟩)
  have x04 := x1.trans (x2.trans (x3.trans x4))
  have H4H := Lib.hid H4
  have gn4 : gn ≤ 4 := by rw [hgn]; exact good_len _ _
  clear hrm hgn H3 H4 x3 x4 K2 x2 K1 x1
  obtain ⟨rN, rfl⟩ : ∃ rN : Nat, rm = rN := ⟨rm.toNat, by have := good_ram m m.segs.length; rw [HRG.out.1]; omega⟩
  go_upto_region 4 with (first | refine wpList_ldrow rfl 25 (.tmp 10) rfl K4 rfl Try.underlying25 rfl (by kernel_rfl) ?_ | (go_at_call 10; (refine (new_any H4H.out (good_may _ _) (by rw [HRG.out.1]) (by rw [HRG.out.2]) rfl).mono ?_); rintro e w5 ⟨g, va, T, rfl, x5, M5, hT⟩))
  have M5 : MemC w5 g m.g0 va T := M5
  have K5 := (x5.block _ (blk_lt K4)).trans K4
  have NM5 := Lib.hid M5
  have HT := Lib.hid hT
  have X5 : Ext w w5 := x04.trans x5
  have HT2 := Lib.hid (fun b t (h : T b = some t) => Nat.le_trans x04.size (HT.out b t h))
  have hT4 : ∀ b, T b ≠ none → w4.heap.size ≤ b := fun b hb => by obtain ⟨t, ht⟩ := Option.ne_none_iff_exists'.1 hb; exact HT.out b t ht
  have HT4 := Lib.hid hT4
  have HK5 := Lib.hid K5
  have x34 := blk_lt K4
  clear M5 hT K4 hT4 K5
  go_upto_region 7 with (go_at_call 12; (refine (HF.out _).mono ?_); rintro e w6 ⟨rfl, rfl⟩)
  go_loopw [47] (fun v wr => ∃ (k : Nat) (s : MS), v = .int .i64 k ∧ k ≤ an ∧ MemC wr g s va T ∧ Like m.g0 s ∧ Kept (fun b => T b ≠ none) w5 wr) (fun v _ => an - (intOf v).toNat)
  case atStart => exact ⟨0, _, rfl, Nat.zero_le _, NM5.out, Like.refl _, Kept.refl _ _⟩
  case round =>
    obtain ⟨k, s, rfl, hk, M, L, kp⟩ := hrel
    by_cases hlt : k < an
    · have hkn : (k : Int) < an := by omega
      obtain ⟨y, hy⟩ : ∃ y, l[k]? = some y := ⟨_, List.getElem?_eq_getElem (by have := HAN.out; omega)⟩
      have xw := ext_kept X5 kp HT2.out
      obtain ⟨b, o, hA, hb, hr⟩ := Shows.row ac_len (by omega) (HA.out.1.ext xw) HAN.out.2 hy
      have hyo := Lib.hid (HA.out.2 y (List.mem_of_getElem? hy))
      have HM := Lib.hid M
      have HL := Lib.hid L
      clear M L hy
      subst hA
      go_upto_region 9 with (first | refine wpList_load_mid rfl 39 _ rfl _ _ rfl y.vals _ hr Try.underlying39 rfl size39 ?_ | refine wpList_stnew rfl 39 _ _ rfl rfl y.vals rfl rfl size39 rfl (ac_one y) ?_)
      obtain ⟨w6, hw6⟩ : ∃ V, V = wr.alloc (.cells y.vals.toArray 39) := ⟨_, rfl⟩
      have k6 : w6.heap[wr.heap.size]? = some (.cells y.vals.toArray 39 (0, 0)) := by rw [hw6]; exact heap_alloc_new _ _
      have x6 : Ext wr w6 := by rw [hw6]; exact (Ext.refl _).alloc _
      rw [← hw6]
      clear hw6 hr
      go_wp2_with (first | refine wpList_ldrow rfl 39 (.tmp 14) rfl k6 rfl Try.underlying39 rfl (by kernel_rfl) ?_ | (go_at_call 13; (refine (does_any (HM.out.ext x6) y (hyo.out.ext (xw.trans x6))).mono ?_); rintro e w7 ⟨v, rfl, M7, k7, _⟩; have HM7 := Lib.hid M7; clear M7))
      go_roundw
      case rel => exact ⟨k + 1, _, by go_num, by omega, HM7.out, HL.out.trans (like_act HM.out.ok y), (kp.then x6).trans' k7⟩
      case measure => simp [intOf]; omega
    · obtain rfl : k = an := by omega
      have HM := Lib.hid M
      have HL := Lib.hid L
      obtain ⟨wo, rfl⟩ : ∃ z : World, z = wr := ⟨_, rfl⟩
      have hn4 : ∀ W : World, Kept (fun b => T b ≠ none) w5 W → W.heap[w3.heap.size]? = some (.cells #[.int .i64 (rN : Int), .slice sA3 gn sc3, .slice none 0 0] 25 (0, 0)) := fun W kk => kk.blk HK5.out (fun h => by have := HT4.out _ h; have := x34; omega)
      have HN4 := Lib.hid hn4
      obtain ⟨f0, f1, f2⟩ := cells3 (hn4 _ kp)
      obtain ⟨g1, hg1⟩ : ∃ g1, g1 = gn + 1 := ⟨_, rfl⟩
      have e1 : (gn : Int) + 1 = (g1 : Int) := by omega
      have hg5 : g1 ≤ 5 := by omega
      have HG1 := Lib.hid hg1
      have HKP := Lib.hid kp
      clear M L hn4 hg1 kp
      go_upto_region 12 with (fail)
      clear f0 f1 f2
      go_loopw [59] (fun v wr => ∃ (k : Nat) (s : MS), v = .int .i64 k ∧ k ≤ g1 ∧ MemC wr g s va T ∧ Like m.g0 s ∧ Kept (fun b => T b ≠ none) w5 wr) (fun v _ => g1 - (intOf v).toNat)
      case atStart => exact ⟨0, _, rfl, Nat.zero_le _, HM.out, HL.out, HKP.out⟩
      case round =>
        clear HM HL HKP
        obtain ⟨k, s, rfl, hk, M, L, kp⟩ := hrel
        obtain ⟨wi, rfl⟩ : ∃ z : World, z = wr := ⟨_, rfl⟩
        obtain ⟨f0, f1, f2⟩ := cells3 (HN4.out _ kp)
        have HM := Lib.hid M
        have HL := Lib.hid L
        have HKP := Lib.hid kp
        clear M L kp
        by_cases hlt : k < g1
        · have hkn : (k : Int) < g1 := by omega
          have hkg : k ≤ gn := by have := HG1.out; omega
          by_cases h0 : k = 0
          · have hk0 : ¬ (0 : Int) < k := by omega
            have hk0' : ¬ 0 < k := by omega
            have H0 := Lib.hid h0
            clear h0
            go_upto_region 21 with (fail)
            have h0 := H0.out
            clear f0 f1 f2 hk0 hk0'
            obtain ⟨sm, hsmE⟩ : ∃ sm, sm = true := ⟨_, rfl⟩
            have hrN : 8 ≤ rN ∧ rN ≤ 64 := by have := good_ram m m.segs.length; have h2 := HRG.out.1; omega
            have hvl : ∀ who : Int, (who = 1 ∨ who = 2) → (s.vb who k).length = rN := fun who _ => by
              unfold MS.vb
              rw [if_pos h0, HL.out.ram]
              show (zeros _).length = rN
              rw [zeros_len, ← HRG.out.1]; rfl
            have hks : k ≤ s.segs.length := by omega
            have hsm : sm = true ↔ s.vt 1 k = s.vt 2 k := by
              unfold MS.vt
              rw [if_pos h0, if_pos h0]
              simp [hsmE]
            clear h0
            have HSE := Lib.hid hsmE
            clear hsmE
            have hkb : k < 256 := by omega
            obtain ⟨tt, ht, htT, htN, htl⟩ : ∃ tt : Nat, (att : Int) % rN = (tt : Int) ∧ (att : Int).tmod rN = (tt : Int) ∧ att % rN = tt ∧ tt < rN := ⟨att % rN, by omega, by rw [Int.tmod_eq_emod_of_nonneg (by omega)]; omega, rfl, Nat.mod_lt _ (by omega)⟩
            have htb : tt < 4294967296 := by omega
            have hn0 : ¬ (rN = 0) := by omega
            have hn0' : ((rN : Int) == 0) = false := by simp; omega
            obtain ⟨w0, nw, ow, gI, p1, p2, p3, p4, p5, p6, p7, pc⟩ := sees_pure (b := (bb : Int)) HM.out.ok hks (by rw [hvl 1 (.inl rfl)]; exact htl) (by rw [hvl 2 (.inr rfl)]; exact htl) hsm
            have b2 := rd_byts HM.out.ok 1 k tt 1
            rw [p2] at b2
            have okw := (HM.out.ok)
            have bbB : Byts [(bb : Int)] := by intro x hx; simp at hx; omega
            have HP := Lib.hid (And.intro p1 (And.intro p2 (And.intro p3 (And.intro p4 (And.intro p5 (And.intro p6 p7))))))
            have HPC := Lib.hid pc
            have B2 := Lib.hid b2
            have BB := Lib.hid bbB
            have HKB := Lib.hid (And.intro hkb htb)
            have HSM := Lib.hid hsm
            have hatt : att < 9223372036854775808 := by omega
            clear p1 p2 p3 p4 p5 p6 p7 pc b2 bbB okw hvl hks hsm htl
            have u1 := wri att hatt
            have u2 := wr32 tt htb
            have u3 := wr8 hkb
            clear hatt hkb htb
            go_upto_region 22 with (fail)
            clear ht htT htN hn0 hn0' u1 u2
            go_upto_region 23 with (go_at_call 23; (refine (read_any HM.out 1 k tt 1 HKB.out.1 HKB.out.2 (by decide)).mono ?_); rw [HP.out.1, HP.out.2.1]; rintro e w6 ⟨x6, v6, rfl, o6⟩)
            have o6 : w6.ownsRow wi.heap.size 5 1 v6 1 (u8s [w0]) := o6
            obtain ⟨A6, c6, rfl, _, r6⟩ := rd_own o6 B2.out
            obtain ⟨w7, hw7⟩ : ∃ V, V = w6.alloc (.cells #[.int .u8 (bb : Int)] 5) := ⟨_, rfl⟩
            have x7 : Ext w6 w7 := by rw [hw7]; exact (Ext.refl _).alloc _
            have r7 : Rd w7 (some ⟨w6.heap.size, 0, none⟩) 1 [(bb : Int)] := by rw [hw7]; exact rd_new (cs := [(bb : Int)]) 5 rfl BB.out
            go_upto_region 24 with (go_at_call 22; rw [← hw7]; (refine (write_any (HM.out.ext (x6.trans x7)) 2 k tt 1 r7 HKB.out.1 HKB.out.2 (by decide)).mono ?_); rw [HP.out.2.2.1]; rintro e w8 ⟨rfl, M8, k8⟩; have HM8 := Lib.hid M8; clear M8)
            clear hw7
            go_upto_region 25 with (go_at_call 23; (refine (read_any HM8.out 1 k tt 1 HKB.out.1 HKB.out.2 (by decide)).mono ?_); rw [HP.out.2.2.2.1, HP.out.2.2.2.2.1]; rintro e w9 ⟨x9, v9, rfl, o9⟩)
            have b9 := rd_byts HM8.out.ok 1 k tt 1
            rw [HP.out.2.2.2.2.1] at b9
            have o9 : w9.ownsRow w8.heap.size 5 1 v9 1 (u8s [nw]) := o9
            obtain ⟨A9, c9, rfl, _, r9⟩ := rd_own o9 b9
            go_upto_region 26 with (go_at_call 23; (refine (read_any (HM8.out.ext x9) 2 k tt 1 HKB.out.1 HKB.out.2 (by decide)).mono ?_); rw [HP.out.2.2.2.2.2.1, HP.out.2.2.2.2.2.2]; rintro e w10 ⟨x10, v10, rfl, o10⟩)
            clear u3
            have b10 := rd_byts HM8.out.ok 2 k tt 1
            rw [HP.out.2.2.2.2.2.2] at b10
            have o10 : w10.ownsRow w9.heap.size 5 1 v10 1 (u8s [ow]) := o10
            obtain ⟨A10, c10, rfl, _, r10⟩ := rd_own o10 b10
            have hA6 : ∀ ad, A6 = some ad → ¬ (T ad.block ≠ none) := fun ad e h => by
              obtain ⟨t, ht⟩ := Option.ne_none_iff_exists'.1 h
              have h1 := (o6.lt ad.block (by rw [e]; rfl)).1
              have h2 := HM.out.O.lt _ _ ht
              omega
            have kk : Kept (fun b => T b ≠ none) w6 w10 := (((Kept.of_ext x7).trans' k8).then x9).then x10
            obtain ⟨ba, oa, hAa, _, ca⟩ := (r6.kept kk hA6).cell (k := 0) (by omega)
            obtain ⟨bb2, ob, hAb, _, cb⟩ := (r9.ext x10).cell (k := 0) (by omega)
            obtain ⟨bc, oc, hAc, _, cc⟩ := r10.cell (k := 0) (by omega)
            have KK := Lib.hid ((HKP.out.then x6).trans' kk)
            have HM10 := Lib.hid (HM8.out.ext (x9.trans x10))
            have HL10 := Lib.hid (HL.out.trans (like_wr HM.out.ok 2 k tt [(bb : Int)]))
            subst hAa hAb hAc
            clear o6 o9 o10 r6 r7 r9 r10 kk hA6 b9 b10 k8 x7
            simp only [List.getD_cons_zero, Nat.add_zero] at ca cb cc
            obtain rfl := HSE.out
            rcases HPC.out with ⟨hg, ho, hnw⟩ | ⟨hg, hnw⟩
            · simp only [if_true] at hnw
              subst hg ho hnw
              go_upto_region 28 with (fail)
              go_quiet (fail)
              obtain ⟨w11, hWq⟩ : ∃ z : World, z = World.drewN w10 nq := ⟨_, rfl⟩
              rw [← hWq]
              have xw11 : Ext w10 w11 := by rw [hWq]; exact (Ext.refl _).drewN _
              clear hWq
              go_wp2
              go_roundw
              case rel => exact ⟨k + 1, _, by go_num, by omega, HM10.out.ext xw11, HL10.out, KK.out.then xw11⟩
              case measure => simp [intOf]; omega
            · subst hg hnw
              go_upto_region 28 with (fail)
              go_quiet (fail)
              obtain ⟨w11, hWq⟩ : ∃ z : World, z = World.drewN w10 nq := ⟨_, rfl⟩
              rw [← hWq]
              have xw11 : Ext w10 w11 := by rw [hWq]; exact (Ext.refl _).drewN _
              clear hWq
              go_wp2
              go_roundw
              case rel => exact ⟨k + 1, _, by go_num, by omega, HM10.out.ext xw11, HL10.out, KK.out.then xw11⟩
              case measure => simp [intOf]; omega
          · obtain ⟨i, hi⟩ : ∃ i, k = i + 1 := ⟨k - 1, by omega⟩
            have hig : i < gn := by omega
            obtain ⟨s0, ln, np, hs0, hln, hnp, l1, l16, n2, n4, hseg⟩ := g0_seg (m := m) (i := i) (by rw [← HRG.out.2]; exact hig)
            obtain ⟨q, hq, hql, hqn, _⟩ := HL.out.sg i _ hseg
            have x4i := ext_kept x5 HKP.out HT.out
            obtain ⟨b, o, hA, _, hr⟩ := Shows.row sm_len (by omega) (H4H.out.segs.ext x4i) rfl hs0
            have m0 := hr 0 _ rfl
            simp only [Nat.add_zero] at m0
            rw [hln] at m0
            have hk0 : (0 : Int) < k := by omega
            have hk0N : 0 < k := by omega
            have hki : (k : Int) - 1 = (i : Int) := by omega
            have hiI : (i : Int) < gn := by omega
            have i5 : i < 9223372036854775808 := by omega
            have hkq := HM.out.ok.g q (List.mem_of_getElem? hq)
            have hvl : ∀ who : Int, (who = 1 ∨ who = 2) → (s.vb who k).length = ln := fun who _ => by
              rw [hi, vb_seg hq]
              have hs := hkq.see who
              have hp : q.pages[q.see who]? = some (q.pages.getD (q.see who) []) := by rw [List.getD_eq_getElem?_getD, List.getElem?_eq_getElem hs]; rfl
              rw [hkq.pl _ (List.mem_of_getElem? hp), hql]
            have hks : k ≤ s.segs.length := by have := (List.getElem?_eq_some_iff.1 hq).1; omega
            have P1 := pg_seg hq 1 (.inl rfl)
            have P2 := pg_seg hq 2 (.inr rfl)
            have hvt : s.vt 1 k = s.vt 2 k ↔ q.see 1 = q.see 2 := by
              unfold MS.vt
              rw [hi, if_neg (by omega), if_neg (by omega), Nat.add_sub_cancel, hq]
              simp
            obtain ⟨a1, ha1⟩ : ∃ a1, a1 = q.see 1 := ⟨_, rfl⟩
            obtain ⟨a2, ha2⟩ : ∃ a2, a2 = q.see 2 := ⟨_, rfl⟩
            rw [← ha1] at P1
            rw [← ha2] at P2
            rw [← ha1, ← ha2] at hvt
            obtain ⟨sm, hd1⟩ : ∃ sm, decide (a1 = a2) = sm := ⟨_, rfl⟩
            have hd2 : ((a1 : Int) == (a2 : Int)) = sm := by
              rw [← hd1]
              by_cases e : a1 = a2
              · subst e; simp
              · have : ((a1 : Int) == a2) = false := by simp; omega
                rw [this]; simp [e]
            have hd3 : decide ((a1 : Int) = a2) = sm := by
              rw [← hd1]
              by_cases e : a1 = a2
              · subst e; simp
              · have : ¬ ((a1 : Int) = a2) := by omega
                simp [e, this]
            have hsm : sm = true ↔ s.vt 1 k = s.vt 2 k := by rw [hvt, ← hd1]; simp
            have HPP := Lib.hid (And.intro P1 P2)
            have HI := Lib.hid hi
            have ui := wri i i5
            subst hA
            clear i5 hr hs0 hseg hq hql hqn P1 P2 hvt ha1 ha2 hi hkq hln hnp
            go_upto_region 19 with (go_at_call 24; (refine (page_any HM.out 1 i).mono ?_); rw [HPP.out.1]; rintro e wa ⟨rfl, rfl⟩)
            go_upto_region 20 with (go_at_call 24; (refine (page_any HM.out 2 i).mono ?_); rw [HPP.out.2]; rintro e wa ⟨rfl, rfl⟩)
            go_upto_region 21 with (fail)
            clear f0 f1 f2 m0 hd1 hd2 hd3 hk0 hk0N hki hiI ui
            have hkb : k < 256 := by omega
            obtain ⟨tt, ht, htT, htN, htl⟩ : ∃ tt : Nat, (att : Int) % ln = (tt : Int) ∧ (att : Int).tmod ln = (tt : Int) ∧ att % ln = tt ∧ tt < ln := ⟨att % ln, by omega, by rw [Int.tmod_eq_emod_of_nonneg (by omega)]; omega, rfl, Nat.mod_lt _ (by omega)⟩
            have htb : tt < 4294967296 := by omega
            have hn0 : ¬ (ln = 0) := by omega
            have hn0' : ((ln : Int) == 0) = false := by simp; omega
            obtain ⟨w0, nw, ow, gI, p1, p2, p3, p4, p5, p6, p7, pc⟩ := sees_pure (b := (bb : Int)) HM.out.ok hks (by rw [hvl 1 (.inl rfl)]; exact htl) (by rw [hvl 2 (.inr rfl)]; exact htl) hsm
            have b2 := rd_byts HM.out.ok 1 k tt 1
            rw [p2] at b2
            have okw := (HM.out.ok)
            have bbB : Byts [(bb : Int)] := by intro x hx; simp at hx; omega
            have HP := Lib.hid (And.intro p1 (And.intro p2 (And.intro p3 (And.intro p4 (And.intro p5 (And.intro p6 p7))))))
            have HPC := Lib.hid pc
            have B2 := Lib.hid b2
            have BB := Lib.hid bbB
            have HKB := Lib.hid (And.intro hkb htb)
            have HSM := Lib.hid hsm
            have hatt : att < 9223372036854775808 := by omega
            clear p1 p2 p3 p4 p5 p6 p7 pc b2 bbB okw hvl hks hsm htl
            have u1 := wri att hatt
            have u2 := wr32 tt htb
            have u3 := wr8 hkb
            clear hatt hkb htb
            go_upto_region 22 with (fail)
            clear ht htT htN hn0 hn0' u1 u2
            go_upto_region 23 with (go_at_call 23; (refine (read_any HM.out 1 k tt 1 HKB.out.1 HKB.out.2 (by decide)).mono ?_); rw [HP.out.1, HP.out.2.1]; rintro e w6 ⟨x6, v6, rfl, o6⟩)
            have o6 : w6.ownsRow wi.heap.size 5 1 v6 1 (u8s [w0]) := o6
            obtain ⟨A6, c6, rfl, _, r6⟩ := rd_own o6 B2.out
            obtain ⟨w7, hw7⟩ : ∃ V, V = w6.alloc (.cells #[.int .u8 (bb : Int)] 5) := ⟨_, rfl⟩
            have x7 : Ext w6 w7 := by rw [hw7]; exact (Ext.refl _).alloc _
            have r7 : Rd w7 (some ⟨w6.heap.size, 0, none⟩) 1 [(bb : Int)] := by rw [hw7]; exact rd_new (cs := [(bb : Int)]) 5 rfl BB.out
            go_upto_region 24 with (go_at_call 22; rw [← hw7]; (refine (write_any (HM.out.ext (x6.trans x7)) 2 k tt 1 r7 HKB.out.1 HKB.out.2 (by decide)).mono ?_); rw [HP.out.2.2.1]; rintro e w8 ⟨rfl, M8, k8⟩; have HM8 := Lib.hid M8; clear M8)
            clear hw7
            go_upto_region 25 with (go_at_call 23; (refine (read_any HM8.out 1 k tt 1 HKB.out.1 HKB.out.2 (by decide)).mono ?_); rw [HP.out.2.2.2.1, HP.out.2.2.2.2.1]; rintro e w9 ⟨x9, v9, rfl, o9⟩)
            have b9 := rd_byts HM8.out.ok 1 k tt 1
            rw [HP.out.2.2.2.2.1] at b9
            have o9 : w9.ownsRow w8.heap.size 5 1 v9 1 (u8s [nw]) := o9
            obtain ⟨A9, c9, rfl, _, r9⟩ := rd_own o9 b9
            go_upto_region 26 with (go_at_call 23; (refine (read_any (HM8.out.ext x9) 2 k tt 1 HKB.out.1 HKB.out.2 (by decide)).mono ?_); rw [HP.out.2.2.2.2.2.1, HP.out.2.2.2.2.2.2]; rintro e w10 ⟨x10, v10, rfl, o10⟩)
            clear u3
            have b10 := rd_byts HM8.out.ok 2 k tt 1
            rw [HP.out.2.2.2.2.2.2] at b10
            have o10 : w10.ownsRow w9.heap.size 5 1 v10 1 (u8s [ow]) := o10
            obtain ⟨A10, c10, rfl, _, r10⟩ := rd_own o10 b10
            have hA6 : ∀ ad, A6 = some ad → ¬ (T ad.block ≠ none) := fun ad e h => by
              obtain ⟨t, ht⟩ := Option.ne_none_iff_exists'.1 h
              have h1 := (o6.lt ad.block (by rw [e]; rfl)).1
              have h2 := HM.out.O.lt _ _ ht
              omega
            have kk : Kept (fun b => T b ≠ none) w6 w10 := (((Kept.of_ext x7).trans' k8).then x9).then x10
            obtain ⟨ba, oa, hAa, _, ca⟩ := (r6.kept kk hA6).cell (k := 0) (by omega)
            obtain ⟨bb2, ob, hAb, _, cb⟩ := (r9.ext x10).cell (k := 0) (by omega)
            obtain ⟨bc, oc, hAc, _, cc⟩ := r10.cell (k := 0) (by omega)
            have KK := Lib.hid ((HKP.out.then x6).trans' kk)
            have HM10 := Lib.hid (HM8.out.ext (x9.trans x10))
            have HL10 := Lib.hid (HL.out.trans (like_wr HM.out.ok 2 k tt [(bb : Int)]))
            subst hAa hAb hAc
            clear o6 o9 o10 r6 r7 r9 r10 kk hA6 b9 b10 k8 x7
            simp only [List.getD_cons_zero, Nat.add_zero] at ca cb cc
            rcases HPC.out with ⟨hg, ho, hnw⟩ | ⟨hg, hnw⟩
            · rcases sm with _ | _
              · simp only [if_false, Bool.false_eq_true] at hnw
                subst hg ho hnw
                go_upto_region 28 with (fail)
                go_quiet (fail)
                obtain ⟨w11, hWq⟩ : ∃ z : World, z = World.drewN w10 nq := ⟨_, rfl⟩
                rw [← hWq]
                have xw11 : Ext w10 w11 := by rw [hWq]; exact (Ext.refl _).drewN _
                clear hWq
                go_wp2
                go_roundw
                case rel => exact ⟨k + 1, _, by go_num, by omega, HM10.out.ext xw11, HL10.out, KK.out.then xw11⟩
                case measure => simp [intOf]; omega
              · simp only [if_true] at hnw
                subst hg ho hnw
                go_upto_region 28 with (fail)
                go_quiet (fail)
                obtain ⟨w11, hWq⟩ : ∃ z : World, z = World.drewN w10 nq := ⟨_, rfl⟩
                rw [← hWq]
                have xw11 : Ext w10 w11 := by rw [hWq]; exact (Ext.refl _).drewN _
                clear hWq
                go_wp2
                go_roundw
                case rel => exact ⟨k + 1, _, by go_num, by omega, HM10.out.ext xw11, HL10.out, KK.out.then xw11⟩
                case measure => simp [intOf]; omega
            · subst hg hnw
              rcases sm with _ | _
              · go_upto_region 28 with (fail)
                go_quiet (fail)
                obtain ⟨w11, hWq⟩ : ∃ z : World, z = World.drewN w10 nq := ⟨_, rfl⟩
                rw [← hWq]
                have xw11 : Ext w10 w11 := by rw [hWq]; exact (Ext.refl _).drewN _
                clear hWq
                go_wp2
                go_roundw
                case rel => exact ⟨k + 1, _, by go_num, by omega, HM10.out.ext xw11, HL10.out, KK.out.then xw11⟩
                case measure => simp [intOf]; omega
              · go_upto_region 28 with (fail)
                go_quiet (fail)
                obtain ⟨w11, hWq⟩ : ∃ z : World, z = World.drewN w10 nq := ⟨_, rfl⟩
                rw [← hWq]
                have xw11 : Ext w10 w11 := by rw [hWq]; exact (Ext.refl _).drewN _
                clear hWq
                go_wp2
                go_roundw
                case rel => exact ⟨k + 1, _, by go_num, by omega, HM10.out.ext xw11, HL10.out, KK.out.then xw11⟩
                case measure => simp [intOf]; omega
        · obtain rfl : k = g1 := by omega
          go_wp2
          go_ret
          exact ⟨rfl, ext_kept X5 HKP.out HT2.out⟩
end Go.Proofs.Ytjgmnbfadnlikaa
