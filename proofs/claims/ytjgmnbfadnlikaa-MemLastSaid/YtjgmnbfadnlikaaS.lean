import Derived.Test.YtjgmnbfadnlikaaR
set_option linter.unusedVariables false
set_option linter.unusedSimpArgs false
namespace Go.Proofs.Ytjgmnbfadnlikaa
open Go.RowKit
theorem ms_add {m : MP} {k : Nat} {s : SM} (hs : m.segs[k]? = some s) : (m.ms k).add (m.sg k s) = m.ms (k + 1) := by
  unfold MS.add MP.ms
  simp only
  rw [sgs_succ hs]
theorem ms_len {m : MP} {k : Nat} (h : k ≤ m.segs.length) : (m.ms k).segs.length = k := sgs_len m k h
theorem u8s_zeros (n : Nat) : u8s (zeros n) = List.replicate n (.int .u8 0) := by simp [u8s, zeros]
theorem zeros_own {w : World} {B n : Nat} (h : w.heap[B]? = some (.cells (List.replicate n (.int .u8 0)).toArray 5 (0, 0))) (hn : n ≤ 100000) : w.ownsRow 0 5 1 (.slice (some ⟨B, 0, none⟩) n n) n (u8s (zeros n)) := by
  rw [u8s_zeros]
  exact ⟨by simp, .inr ⟨B, n, _, rfl, Nat.zero_le _, h, Nat.le_refl _, le_max (by omega), by simp, by simp⟩⟩
theorem nils_own {w : World} {B n : Nat} (h : w.heap[B]? = some (.cells (List.replicate n (.slice none 0 0)).toArray 37 (0, 0))) (hn : n ≤ 100000) : w.ownsRow 0 37 1 (.slice (some ⟨B, 0, none⟩) n n) n (List.replicate n (.slice none 0 0)) :=
  ⟨by simp, .inr ⟨B, n, _, rfl, Nat.zero_le _, h, Nat.le_refl _, le_max (by omega), by simp, by simp⟩⟩
theorem shows3 {w : World} {g : Nat} {x0 x1 x2 : Value} {t : TypeId} (h : g = w.heap.size) : Shows (w.alloc (.cells #[x0, x1, x2] t)) 3 (some ⟨g, 0, none⟩) 1 [x0, x1, x2] := by
  subst h
  have K := heap_alloc_new w (.cells #[x0, x1, x2] t)
  exact ⟨rfl, fun _ => ⟨_, rfl, blk_lt K, fun j u hu => by have := cells_of_blk (off := 0) K j u (by simpa using hu); exact this⟩⟩
section
variable {w w' : World} {s : MS} {va : Tg → Value} {T : Nat → Option Tg}
theorem lay_facts {k n cr c P : Nat} {ps : List (List Int)} (h : Own w va T (nspec s va k n cr ps)) (hva : va (3, k, 0) = .slice (some ⟨P, 0, none⟩) n n) (hc : c < n) : (∃ u, w.cell? ⟨P, c, none⟩ = some u) ∧ w.frozen? ⟨P, c, none⟩ = false := by
  obtain ⟨g, cc, e, _, _, hf, hcell, _⟩ := own_set (h.own _ _ (nspec_row s va k n cr ps)) (i := c) (by simp; omega) undef
  rw [hva] at e
  injection e with e; injection e with e; injection e with e
  subst e
  exact ⟨⟨_, hcell.trans (List.getElem?_eq_getElem (by rw [partRow_len]; exact hc))⟩, hf⟩
theorem nobj {k n cr g : Nat} {ps : List (List Int)} (hk : s.segs.length = k) (h : Own w va T (nspec s va k n cr ps)) (hg : va (0, 0, 0) = .slice (some ⟨g, 0, none⟩) 1 1) :
    ∃ rA rc sA sc, va (2, 0, 0) = .slice sA k sc ∧ va (1, 0, 0) = .slice rA s.ram.length rc ∧ w.heap[g]? = some (.cells #[.slice rA s.ram.length rc, .slice sA k sc] 62 (0, 0)) ∧ w.ownsRow 0 64 3 (.slice sA k sc) k (segRow va 0 s.segs) := by
  have h0 := h.own (0, 0, 0) _ (by rw [nspec_other _ _ _ _ _ _ (by simp) (by simp)]; rfl)
  have h1 := h.own (1, 0, 0) _ (by rw [nspec_other _ _ _ _ _ _ (by simp) (by simp)]; rfl)
  have h2 := h.own (2, 0, 0) _ (by rw [nspec_other _ _ _ _ _ _ (by simp) (by simp)]; rfl)
  subst hk
  obtain ⟨rA, rc, e1, _, _⟩ := own_form h1
  obtain ⟨sA, sc, e2, _, _⟩ := own_form h2
  rw [hg] at h0
  have K := own_obj h0
  rw [e1, e2] at K
  rw [e2] at h2
  exact ⟨rA, rc, sA, sc, e2, e1, K, h2⟩
/-- a page of zeros, by names. -/
theorem page_new {k n c P B ln : Nat} (hk : s.segs.length = k) (h : Own w va T (nspec s va k n c (List.replicate c (zeros ln)))) (hva : va (3, k, 0) = .slice (some ⟨P, 0, none⟩) n n) {g : Nat} (hg : va (0, 0, 0) = .slice (some ⟨g, 0, none⟩) 1 1) (x : Ext w w') (hB : B = w.heap.size) (hl : w.heap.size < w'.heap.size) (hv : w'.ownsRow 0 5 1 (.slice (some ⟨B, 0, none⟩) ln ln) ln (u8s (zeros ln))) {lo : Nat} (hT : ∀ b t, T b = some t → lo ≤ b) (hlo : lo ≤ w.heap.size) :
    ∃ vc Tc, Own w' vc Tc (nspec s vc k n c (List.replicate (c + 1) (zeros ln))) ∧ vc (3, k, 0) = .slice (some ⟨P, 0, none⟩) n n ∧ vc (0, 0, 0) = .slice (some ⟨g, 0, none⟩) 1 1 ∧ vc (4, k, c) = .slice (some ⟨B, 0, none⟩) ln ln ∧ ∀ b t, Tc b = some t → lo ≤ b := by
  subst hk hB
  have hv' : w'.ownsRow 0 5 1 (.slice (some ⟨w.heap.size, 0, none⟩) ln ln) (zeros ln).length (u8s (zeros ln)) := by rw [zeros_len]; exact hv
  have := own_page h (by simp) x (Nat.le_refl _) hl hv' (fun b e => by injection e with e; exact e.symm)
  rw [← List.replicate_succ'] at this
  refine ⟨_, _, this, by simp; exact hva, by simp; exact hg, by simp, ?_⟩
  intro b t hb
  by_cases e : b = w.heap.size
  · omega
  · simp only [if_neg e] at hb; exact hT b t hb
theorem lay_new {k n c P : Nat} {ps : List (List Int)} {v : Value} (hk : s.segs.length = k) (h : Own w va T (nspec s va k n c ps)) (hva : va (3, k, 0) = .slice (some ⟨P, 0, none⟩) n n) (hc : c < n) (hv : va (4, k, c) = v) : Own (w.setCell ⟨P, c, none⟩ v) va T (nspec s va k n (c + 1) ps) := by
  subst hk hv
  exact own_lay h hva hc
end
theorem mem_add9 {w : World} {s : MS} {va : Tg → Value} {T : Nat → Option Tg} {g n k P : Nat} {w1 : World} {q : Sg} {v' sv : Value} (hk : s.segs.length = k) (h : Own w va T (nspec s va k n n q.pages)) (hg0 : va (0, 0, 0) = .slice (some ⟨g, 0, none⟩) 1 1) (h3 : va (3, k, 0) = .slice (some ⟨P, 0, none⟩) n n) (hok : (s.add q).ok ∧ q.a = 0 ∧ q.x = 0) (hn : q.pages.length = n) (hsv : va (2, 0, 0) = sv)
    (hv : w1.ownsRow 0 64 3 v' (k + 1) (segRow va 0 s.segs ++ [.slice (some ⟨P, 0, none⟩) n n, .int .i64 0, .int .i64 0])) (hg : w.grownBy w1 sv.ownBlock) (hat : v'.ownBlock = sv.ownBlock ∨ v'.ownBlock = some w.heap.size) :
    ∃ va' T', (w1.frozen? ⟨g, 1, none⟩ = false ∧ ∃ u, w1.cell? ⟨g, 1, none⟩ = some u) ∧ MemC (w1.setCell ⟨g, 1, none⟩ v') g (s.add q) va' T' ∧ ∀ b t, T' b = some t → T b ≠ none ∨ w.heap.size ≤ b := by
  subst hk hsv
  obtain ⟨h1, h2, h4⟩ := hok
  exact mem_add h hg0 h1 hn (by rw [h3, h2, h4]; exact hv) hg hat
set_option maxRecDepth 100000 in
set_option maxHeartbeats 4000000 in
theorem new_yes {w : World} {m : MP} {sA fA : Option Addr} {sc fc : Nat} (h : MpR w m sA fA sc fc) (hm : m.may = true) : Calls Try.prog 10 #[.agg #[.int .i64 m.ram, .slice sA m.segs.length sc, .slice fA m.flash.length fc]] w fun e w' => ∃ g va T, e = .returned (.tuple #[.pointer (some ⟨g, 0, none⟩), .int .i64 0]) ∧ Ext w w' ∧ MemC w' g (m.ms m.segs.length) va T ∧ ∀ b t, T b = some t → w.heap.size ≤ b := by
  obtain ⟨w1, hw1⟩ : ∃ V, V = w.alloc (.cells #[.int .i64 m.ram, .slice sA m.segs.length sc, .slice fA m.flash.length fc] 25) := ⟨_, rfl⟩
  have K1 : w1.heap[w.heap.size]? = some (.cells ([.int .i64 m.ram, .slice sA m.segs.length sc, .slice fA m.flash.length fc] : List Value).toArray 25 (0, 0)) := by rw [hw1]; exact heap_alloc_new _ _
  have x1 : Ext w w1 := by rw [hw1]; exact (Ext.refl _).alloc _
  obtain ⟨a1, a2, a3, a4⟩ := may_head hm
  obtain ⟨rn, hrn⟩ : ∃ rn : Nat, m.ram = rn := ⟨m.ram.toNat, by omega⟩
  have hc := may_any (h.ext x1)
  rw [hm] at hc
  have h0 : (0 : Int) ≤ rn := by omega
  have HC := Lib.hid hc
  have HX := Lib.hid x1
  have HM := Lib.hid hm
  have H1 := Lib.hid (h.ext x1)
  have HN := Lib.hid (show rn ≤ 1024 ∧ m.segs.length ≤ 4 ∧ m.flash.length ≤ m.segs.length ∧ m.ram = rn from ⟨by omega, a3, a4, hrn⟩)
  have hrn1 : rn ≤ 1024 := by omega
  clear h hc x1 hm a1 a2 a3 a4
  rw [hrn] at K1 HC ⊢
  rw [hrn] at hw1
  clear hrn
  go_enter Try.func10, Try.ntmps10
  go_upto_region 1 with (fail)
  rw [← hw1]
  clear hw1
  go_upto_region 3 with (first | refine wpList_ldrow rfl 25 _ rfl K1 rfl Try.underlying25 rfl size25 ?_ | (go_at_call 27; (refine HC.out.mono ?_); rintro e w2 ⟨rfl, x2⟩))
  have K2 := (x2.block _ (blk_lt K1)).trans K1
  obtain ⟨f0, f1, f2⟩ := cells3 K2
  go_upto_region 4 with (at_make; refine wpList_make1 el37 rfl rfl _ _ rfl rfl rfl h0 (by omega) (by omega) ?_; intro w3 hg3 x3 hs3)
  obtain ⟨w4, hw4⟩ : ∃ V, V = w3.alloc (.cells #[.slice (some ⟨w2.heap.size, 0, none⟩) rn rn, .slice none 0 0] 62) := ⟨_, rfl⟩
  have k4 : w4.heap[w3.heap.size]? = some (.cells #[.slice (some ⟨w2.heap.size, 0, none⟩) rn rn, .slice none 0 0] 62 (0, 0)) := by rw [hw4]; exact heap_alloc_new _ _
  have x4 : Ext w3 w4 := by rw [hw4]; exact (Ext.refl _).alloc _
  rw [← hw4]
  clear hw4
  have hg3' : w3.heap[w2.heap.size]? = some (.cells (List.replicate rn (.int .u8 0)).toArray 5 (0, 0)) := by have := hg3.out; simpa using this
  have o3 := own_ext (zeros_own hg3' (by omega)) x4
  rw [← zeros_len rn] at o3
  have S0 := mem_start (g := w3.heap.size) (B1 := w2.heap.size) (ram := zeros rn) (v := .slice (some ⟨w2.heap.size, 0, none⟩) (zeros rn).length (zeros rn).length) (by rw [zeros_len]; exact k4) (by simpa only [zeros_len] using o3) (fun b e => by injection e with e; exact e.symm) (by have := x4.size; omega) (by omega) (by rw [zeros_len]; exact hrn1) (zeros_byts _)
  obtain ⟨g, hgE⟩ : ∃ g, g = w3.heap.size := ⟨_, rfl⟩
  rw [← hgE] at S0 ⊢
  have em0 : m.ms 0 = ⟨zeros rn, []⟩ := by unfold MP.ms; rw [HN.out.2.2.2]; rfl
  rw [← em0] at S0
  have x14 : Ext w1 w4 := x2.trans (x3.trans x4)
  have hb0 : ∀ b t, (if b = g then some ((0, 0, 0) : Tg) else if b = w2.heap.size then some (1, 0, 0) else none) = some t → w1.heap.size ≤ b := by
    intro b t hb
    have s2 := x2.size
    have s3 := x3.size
    by_cases e : b = g
    · omega
    · by_cases e2 : b = w2.heap.size
      · omega
      · simp [e, e2] at hb
  have HS0 := Lib.hid S0
  have HB0 := Lib.hid hb0
  clear S0 hb0 hg3 hg3' o3 k4 x2 x3 x4 hgE em0 hs3 f0 f1 f2 h0 K2
  obtain ⟨f0, f1, f2⟩ := cells3 ((x14.block _ (blk_lt K1)).trans K1)
  go_upto_region 5 with (fail)
  clear f0 f1 f2
  go_loopw [20] (fun v wr => ∃ (k : Nat) (va : Tg → Value) (T : Nat → Option Tg), v = .int .i64 k ∧ k ≤ m.segs.length ∧ MemC wr g (m.ms k) va T ∧ (∀ b t, T b = some t → w1.heap.size ≤ b) ∧ Ext w1 wr) (fun v _ => m.segs.length - (intOf v).toNat)
  case atStart => exact ⟨0, _, _, rfl, Nat.zero_le _, HS0.out, HB0.out, x14⟩
  case round =>
    clear HS0 HB0 x14
    obtain ⟨k, va, T, rfl, hk, M, hT, xr⟩ := hrel
    obtain ⟨wo, rfl⟩ : ∃ z : World, z = wr := ⟨_, rfl⟩
    by_cases hlt : k < m.segs.length
    · have hkn : (k : Int) < m.segs.length := by omega
      obtain ⟨s, hs⟩ : ∃ s, m.segs[k]? = some s := ⟨_, List.getElem?_eq_getElem hlt⟩
      obtain ⟨q1, q2, q3, q4⟩ := may_seg HM.out hs
      obtain ⟨ln, hln⟩ : ∃ ln : Nat, s.len = ln := ⟨s.len.toNat, by omega⟩
      obtain ⟨np, hnp⟩ : ∃ np : Nat, s.pages = np := ⟨s.pages.toNat, by omega⟩
      obtain ⟨b, o, hA, hb, hr⟩ := Shows.row sm_len (by omega) (H1.out.segs.ext xr) rfl hs
      have HM2 := Lib.hid M
      have HT := Lib.hid hT
      have HR := Lib.hid xr
      have HS := Lib.hid hs
      have HKE := Lib.hid (show w1.heap[w.heap.size]? = some (.cells #[.int .i64 (rn : Int), .slice sA m.segs.length sc, .slice fA m.flash.length fc] 25 (0, 0)) from K1)
      clear M hT hs K1
      subst hA
      go_upto_region 7 with (first | refine wpList_load_mid rfl 54 _ rfl _ _ rfl s.vals _ hr Try.underlying54 rfl size54 ?_ | refine wpList_stnew rfl 54 _ _ rfl rfl s.vals rfl rfl size54 rfl (sm_one s) ?_)
      obtain ⟨w5, hw5⟩ : ∃ V, V = wo.alloc (.cells s.vals.toArray 54) := ⟨_, rfl⟩
      have k5 : w5.heap[wo.heap.size]? = some (.cells #[.int .i64 s.len, .int .i64 s.pages] 54 (0, 0)) := by rw [hw5]; exact heap_alloc_new _ _
      have x5 : Ext wo w5 := by rw [hw5]; exact (Ext.refl _).alloc _
      rw [← hw5]
      clear hw5 hr
      rw [hln, hnp] at k5
      obtain ⟨m0, m1⟩ := cells2 k5
      have p0 : (0 : Int) ≤ np := by omega
      have l0 : (0 : Int) ≤ ln := by omega
      have p4 : np ≤ 4 := by omega
      have p1 : 1 ≤ np := by omega
      have l256 : ln ≤ 256 := by omega
      have HL := Lib.hid (show s.len = ln ∧ s.pages = np from ⟨hln, hnp⟩)
      clear hln hnp q1 q2 q3 q4
      go_upto_region 9 with (at_make; refine wpList_make1 el23 rfl rfl _ _ rfl rfl rfl p0 (by omega) (by omega) ?_; intro w6 hg6 x6 hs6)
      have hg6' : w6.heap[w5.heap.size]? = some (.cells (List.replicate np (.slice none 0 0)).toArray 37 (0, 0)) := by have := hg6.out; simpa using this
      have hk' : (m.ms k).segs.length = k := ms_len (by omega)
      have A0 := own_row0 (x := x6) (HM2.out.ext x5).O (n := np) (P := w5.heap.size) (Nat.le_refl _) hs6 (nils_own hg6' (by omega))
      rw [hk'] at A0
      obtain ⟨P, hP⟩ : ∃ P, P = w5.heap.size := ⟨_, rfl⟩
      rw [← hP] at A0 ⊢
      have HA0 := Lib.hid A0
      have HK := Lib.hid k5
      have xk : Ext wo w6 := x5.trans x6
      have hg0 := Lib.hid (show (fun t => if t = (3, k, 0) then Value.slice (some ⟨P, 0, none⟩) np np else va t) (0, 0, 0) = .slice (some ⟨g, 0, none⟩) 1 1 from by simp; exact HM2.out.g0)
      have hbT : ∀ b t, (if b = P then some ((3, k, 0) : Tg) else T b) = some t → w1.heap.size ≤ b := by
        intro b t hb
        have s5 := x5.size
        have sr := HR.out.size
        by_cases e : b = P
        · omega
        · simp only [if_neg e] at hb; exact HT.out b t hb
      have HBT := Lib.hid hbT
      have HP := Lib.hid hP
      clear A0 k5 hg6 hg6' hs6 hbT hP m0 m1
      go_loopw [30] (fun v wq => ∃ (c : Nat) (vb : Tg → Value) (Tb : Nat → Option Tg), v = .int .i64 c ∧ c ≤ np ∧ Own wq vb Tb (nspec (m.ms k) vb k np c (List.replicate c (zeros ln))) ∧ vb (3, k, 0) = .slice (some ⟨P, 0, none⟩) np np ∧ vb (0, 0, 0) = .slice (some ⟨g, 0, none⟩) 1 1 ∧ (∀ b t, Tb b = some t → w1.heap.size ≤ b) ∧ Ext w5 wq) (fun v _ => np - (intOf v).toNat)
      case atStart => exact ⟨0, _, _, rfl, Nat.zero_le _, HA0.out, by simp, hg0.out, HBT.out, x6⟩
      case round =>
        clear HA0 hg0 HBT
        obtain ⟨c, vb, Tb, rfl, hc, A, hv3, hv0, hTb, xq⟩ := hrel
        obtain ⟨wi, rfl⟩ : ∃ z : World, z = wr := ⟨_, rfl⟩
        obtain ⟨m0, m1⟩ := cells2 ((xq.block _ (blk_lt HK.out)).trans HK.out)
        by_cases hct : c < np
        · have hcn : (c : Int) < np := by omega
          have HA := Lib.hid A
          have H3 := Lib.hid hv3
          have H0 := Lib.hid hv0
          have HTb := Lib.hid hTb
          clear A hv3 hv0 hTb
          go_upto_region 12 with (at_make; refine wpList_make1 el37 rfl rfl _ _ rfl rfl rfl l0 (by omega) (by omega) ?_; intro w7 hg7 x7 hs7; have hg7' : w7.heap[wi.heap.size]? = some (.cells (List.replicate ln (.int .u8 0)).toArray 5 (0, 0)) := (by have := hg7.out; simpa using this); obtain ⟨vc, Tc, A7, hc3, hc0, hc4, hTc⟩ := page_new hk' HA.out H3.out H0.out x7 rfl hs7 (zeros_own hg7' (by omega)) HTb.out (by have := HR.out.size; have := x5.size; have := xq.size; omega); obtain ⟨⟨u7, hcell7⟩, hfz7⟩ := lay_facts A7 hc3 hct; have HA7 := Lib.hid A7; have HC := Lib.hid (And.intro hc3 (And.intro hc0 (And.intro hc4 hTc))); clear A7 hc3 hc0 hc4 hTc hg7 hg7')
          go_wp2
          go_roundw
          case rel => exact ⟨c + 1, vc, Tc, by go_num, by omega, lay_new hk' HA7.out HC.out.1 hct HC.out.2.2.1, HC.out.1, HC.out.2.1, HC.out.2.2.2, (xq.trans x7).setCell (by rw [HP.out]; exact Nat.le_refl _) _⟩
          case measure => simp [intOf]; omega
        · obtain rfl : c = np := by omega
          have HOK := Lib.hid (show ((m.ms k).add (m.sg k s)).ok ∧ (m.sg k s).a = 0 ∧ (m.sg k s).x = 0 from ⟨by rw [ms_add HS.out]; exact ms_ok H1.out HM.out (by omega), rfl, rfl⟩)
          have HLN := Lib.hid (show (m.sg k s).pages.length = c by simp [MP.sg, HL.out.2])
          have xw1 : Ext w1 wi := HR.out.trans (x5.trans xq)
          obtain ⟨f0, f1, f2⟩ := cells3 ((xw1.block _ (blk_lt HKE.out)).trans HKE.out)
          have HA := Lib.hid A
          have H3 := Lib.hid hv3
          have H0 := Lib.hid hv0
          have HTb := Lib.hid hTb
          clear A hv3 hv0 hTb
          by_cases hfl : k < m.flash.length
          · have hfl' : (k : Int) < m.flash.length := by omega
            go_upto_region 14 with (fail)
            obtain ⟨f, hf⟩ : ∃ f, m.flash[k]? = some f := ⟨_, List.getElem?_eq_getElem hfl⟩
            have hfit := may_fit HM.out HS.out hf
            rw [HL.out.1] at hfit
            obtain ⟨b2, o2, hA2, _, hr2⟩ := Shows.row fb_len (by omega) (H1.out.flash.ext xw1) rfl hf
            have q2 := hr2 0 _ rfl
            simp only [Nat.mul_one, Nat.add_zero] at q2
            have hrd := ((H1.out.rd f (List.mem_of_getElem? hf)).1.ext xw1)
            have hfn : f.n ≤ ln := by omega
            have hz0 : (List.replicate c (zeros ln))[0]? = some (zeros ln) := by rw [List.getElem?_replicate, if_pos (by omega)]
            have p0own : wi.ownsRow 0 5 1 (vb (4, k, 0)) ln (u8s (zeros ln)) := by
              have h1 := HA.out.own (4, k, 0) ⟨5, 1, (zeros ln).length, u8s (zeros ln)⟩ (by rw [nspec_page, hz0]; rfl)
              rw [zeros_len] at h1
              exact h1
            obtain ⟨A0, c0, hv4, hlc0, _⟩ := own_form p0own
            obtain ⟨P', _, u0, eP, _, _, hu0, hcell0⟩ := own_at (HA.out.own _ _ (nspec_row _ _ _ _ _ _)) (k := 0) p1
            rw [H3.out] at eP
            injection eP with eP e2 e3; clear e2 e3; injection eP with eP; injection eP with eP
            subst eP
            rw [partRow_full, pgRow_get _ _ _ p1] at hu0
            injection hu0 with hu0
            subst hu0
            have hdp : 0 < f.n → ∀ g' c', vb (4, k, 0) = .slice (some ⟨g', 0, none⟩) ln c' → A0 = some ⟨g', 0, none⟩ := by
              intro _ g' c' e
              rw [hv4] at e
              injection e
            have HDP := Lib.hid hdp
            clear hdp
            rw [hv4] at hcell0
            have htag := Lib.hid (fun b e => HA.out.tag (4, k, 0) ⟨5, 1, (zeros ln).length, u8s (zeros ln)⟩ (by rw [nspec_page, hz0]; rfl) b e)
            have hmin : f.n = min f.n ln := by omega
            have HMIN := Lib.hid hmin
            have hc0' : (0 : Int) < c := by omega
            have hc0n : 0 < c := by omega
            have HFL := Lib.hid (show (List.replicate c (zeros ln)).set 0 (splice (zeros ln) 0 f.bs) = (m.sg k s).pages from by unfold MP.sg MP.fl; rw [HL.out.1, HL.out.2, hf]; rfl)
            have HZ := Lib.hid hz0
            subst hA2
            clear hmin hr2 hf hz0 hv4
            refine wp_regionL (Kept (fun b => Tb b ≠ none) wi) (Ext wi) 8 (by kernel_rfl) (Kept.of_ext (Ext.refl _).drew) ((Ext.refl _).drew) (fun hL => ?_)
            have hP := hL.1
            have hE : Ext wi (World.drew wi) := (Ext.refl _).drew
            obtain ⟨wD1, hwD⟩ : ∃ V, V = World.drew wi := ⟨_, rfl⟩
            rw [← hwD] at hL hP hE ⊢
            clear hwD
            refine wpAnyL_takeP (i := 0) (oi := { dst := some 45, op := Op.move (Operand.tmp 7), type := 23, pos := "mem.go:34", after := #[], guard := none }) (v := ?vv2_14_0) rfl (by kernel_rfl) (by kernel_rfl) (by kernel_rfl) (by kernel_rfl) (fun _ _ _ h => h) (Or.inl ⟨by rfl, ?yy2_14_0⟩) hL (fun hL => ?_)
            case yy2_14_0 => (intro W hx; go_simp; try with_reducible rfl)
            simp only [Act.put, List.setIfInBounds_toArray, List.set_cons_zero, List.set_cons_succ]
            refine wpAnyL_takeP (i := 1) (oi := { dst := some 46, op := Op.indexAddr 23 (Operand.tmp 45) (Operand.const (Value.int IntKind.i64 0)), type := 0, pos := "mem.go:34", after := #[{ on := 0, ground := Ground.data }], guard := none }) (v := ?vv3_14_1) rfl (by kernel_rfl) (by kernel_rfl) (by kernel_rfl) (by kernel_rfl) (fun _ _ _ h => h) (Or.inl ⟨by rfl, ?yy3_14_1⟩) hL (fun hL => ?_)
            case yy3_14_1 => (intro W hx; go_simp; try with_reducible rfl)
            simp only [Act.put, List.setIfInBounds_toArray, List.set_cons_zero, List.set_cons_succ]
            refine wpAnyL_takeB (i := 2) [8] (oi := { dst := some 47, op := Op.load 37 (Operand.tmp 46), type := 37, pos := "mem.go:34", after := #[{ on := 1, ground := Ground.data }], guard := none }) (v := ?vv4_14_2) rfl (by kernel_rfl) (by kernel_rfl) (by kernel_rfl) (by kernel_rfl) (fun _ _ _ h => h) (by kernel_rfl) (Or.inl ⟨by rfl, ?yy4_14_2⟩) hL (fun hL => ?_)
            case yy4_14_2 => (intro W hx; have e2 := cell_ext hx.2 hcell0; go_simp; try with_reducible rfl)
            simp only [Act.put, List.setIfInBounds_toArray, List.set_cons_zero, List.set_cons_succ]
            refine wpAnyL_takeP (i := 3) (oi := { dst := some 48, op := Op.fieldAddr 25 (Operand.tmp 1) 2, type := 0, pos := "mem.go:34", after := #[], guard := none }) (v := ?vv5_14_3) rfl (by kernel_rfl) (by kernel_rfl) (by kernel_rfl) (by kernel_rfl) (fun _ _ _ h => h) (Or.inl ⟨by rfl, ?yy5_14_3⟩) hL (fun hL => ?_)
            case yy5_14_3 => (intro W hx; go_simp; try with_reducible rfl)
            simp only [Act.put, List.setIfInBounds_toArray, List.set_cons_zero, List.set_cons_succ]
            refine wpAnyL_takeB (i := 4) [6, 7, 8] (oi := { dst := some 49, op := Op.load 23 (Operand.tmp 48), type := 23, pos := "mem.go:34", after := #[{ on := 3, ground := Ground.data }], guard := none }) (v := ?vv6_14_4) rfl (by kernel_rfl) (by kernel_rfl) (by kernel_rfl) (by kernel_rfl) (fun _ _ _ h => h) (by kernel_rfl) (Or.inl ⟨by rfl, ?yy6_14_4⟩) hL (fun hL => ?_)
            case yy6_14_4 => (intro W hx; have e2 := cell_ext hx.2 f2; go_simp; try with_reducible rfl)
            simp only [Act.put, List.setIfInBounds_toArray, List.set_cons_zero, List.set_cons_succ]
            refine wpAnyL_takeP (i := 5) (oi := { dst := some 50, op := Op.move (Operand.tmp 5), type := 3, pos := "mem.go:34", after := #[], guard := none }) (v := ?vv7_14_5) rfl (by kernel_rfl) (by kernel_rfl) (by kernel_rfl) (by kernel_rfl) (fun _ _ _ h => h) (Or.inl ⟨by rfl, ?yy7_14_5⟩) hL (fun hL => ?_)
            case yy7_14_5 => (intro W hx; go_simp; try with_reducible rfl)
            simp only [Act.put, List.setIfInBounds_toArray, List.set_cons_zero, List.set_cons_succ]
            refine wpAnyL_takeP (i := 6) (oi := { dst := some 51, op := Op.indexAddr 23 (Operand.tmp 49) (Operand.tmp 50), type := 0, pos := "mem.go:34", after := #[{ on := 4, ground := Ground.data }, { on := 5, ground := Ground.data }], guard := none }) (v := ?vv8_14_6) rfl (by kernel_rfl) (by kernel_rfl) (by kernel_rfl) (by kernel_rfl) (fun _ _ _ h => h) (Or.inl ⟨by rfl, ?yy8_14_6⟩) hL (fun hL => ?_)
            case yy8_14_6 => (intro W hx; go_simp; try with_reducible rfl)
            simp only [Act.put, List.setIfInBounds_toArray, List.set_cons_zero, List.set_cons_succ]
            refine wpAnyL_takeB (i := 7) [8] (oi := { dst := some 52, op := Op.load 37 (Operand.tmp 51), type := 37, pos := "mem.go:34", after := #[{ on := 6, ground := Ground.data }], guard := none }) (v := ?vv9_14_7) rfl (by kernel_rfl) (by kernel_rfl) (by kernel_rfl) (by kernel_rfl) (fun _ _ _ h => h) (by kernel_rfl) (Or.inl ⟨by rfl, ?yy9_14_7⟩) hL (fun hL => ?_)
            case yy9_14_7 => (intro W hx; have e2 := cell_ext hx.2 q2; go_simp; try with_reducible rfl)
            simp only [Act.put, List.setIfInBounds_toArray, List.set_cons_zero, List.set_cons_succ]
            refine wpAnyL_ready (rs := [8]) (by kernel_rfl) (by simp) (AllReadyL.cons rfl (fun K hK => ?_) AllReadyL.nil)
            rw [if_pos (by rfl)]
            have xE : Ext wi wD1 := hE; refine wp_copyO (o := { dst := some 53, op := Op.call { callee := Callee.builtin Builtin.copy, args := #[Operand.tmp 47, Operand.tmp 52], argTypes := #[37, 37] }, type := 3, pos := "mem.go:34", after := #[{ on := 2, ground := Ground.data }, { on := 7, ground := Ground.data }], guard := none }) _ _ _ _ rfl 5 Try.underlying37 size5 rfl rfl (off := 0) HMIN.out (own_ext p0own hE) (by omega) HDP.out (hrd.ext hE).shows (u8s_one _) ?_; intro wt own3 x3
            simp only [Act.put, List.setIfInBounds_toArray, List.set_cons_zero, List.set_cons_succ]
            replace hP := hP.trans' (Kept.of_grown x3 (fun b e => by rw [htag.out b e]; simp))
            clear hE
            clear hL
            refine hK.out _ _ ⟨hP, fun e => absurd e (by simp)⟩ (fun hL => ?_)
            clear hK K
            refine wpAnyL_done (by kernel_rfl) ?_ _
            clear f0 f1 f2 hcell0 q2
            have e1 : splice (u8s (zeros ln)) 0 ((u8s f.bs).take f.n) = u8s (splice (zeros ln) 0 f.bs) := by rw [List.take_of_length_le (by simp [u8s, hrd.len]), u8s_splice]
            rw [e1] at own3
            have el : (splice (zeros ln) 0 f.bs).length = ln := by rw [length_splice _ _ _ (by rw [zeros_len, hrd.len]; omega), zeros_len]
            have hA' : Own wi vb Tb (nspec (m.ms k) vb (m.ms k).segs.length c c (List.replicate c (zeros ln))) := by rw [hk']; exact HA.out
            have hap := own_pg_set (p' := splice (zeros ln) 0 f.bs) (hA'.ext xE) HZ.out (by rw [hk', el]; exact own3) (by rw [hk']; exact x3)
            rw [hk', HFL.out] at hap
            replace xw1 := Ext.of_grown (xw1.trans xE) x3 (fun b e => HTb.out b _ (htag.out b e))
            have kk4 : k < 4 := by have := HN.out.2.1; omega
            obtain ⟨rA, rc, sA2, sc2, hsv, hrv, KG, own7⟩ := nobj hk' hap H0.out
            obtain ⟨g0, g1⟩ := cells2 KG
            obtain ⟨w8, hw8⟩ : ∃ V, V = wt.alloc (.cells #[.slice (some ⟨P, 0, none⟩) c c, .int .i64 0, .int .i64 0] 64) := ⟨_, rfl⟩
            have x8 : Ext wt w8 := by rw [hw8]; exact (Ext.refl _).alloc _
            have sh8 : Shows w8 3 (some ⟨wt.heap.size, 0, none⟩) 1 [.slice (some ⟨P, 0, none⟩) c c, .int .i64 0, .int .i64 0] := by rw [hw8]; exact shows3 rfl
            have own8 := own_ext own7 x8
            have HA8 := Lib.hid (hap.ext x8)
            have HSV := Lib.hid hsv
            clear hap own7 KG hsv hrv
            go_upto_region 16 with (at_builtin; go_loud (rw [← hw8]; refine wpList_appB el60 rfl _ _ rfl own8 rfl sh8 rfl one3 (le_max (by omega)) (by omega) (Nat.zero_le _) ?_; intro v9 w9 own9 gr9 at9; obtain ⟨B9, c9, rfl, _, _⟩ := own9.form (by omega); obtain ⟨va9, T9, ⟨hfz9, u9, hcell9⟩, M9, hT9⟩ := mem_add9 hk' HA8.out H0.out H3.out HOK.out HLN.out HSV.out own9 gr9 at9; have HM9 := Lib.hid M9; clear M9))
            go_wp2
            go_roundw
            case rel => exact ⟨k + 1, va9, T9, by go_num, by omega, by rw [← ms_add HS.out]; exact HM9.out, fun b t hb => (hT9 b t hb).elim (fun h => by obtain ⟨t', ht'⟩ := Option.ne_none_iff_exists'.1 h; exact HTb.out b t' ht') (fun h => by have := xw1.size; have := x8.size; omega), (Ext.of_grown (xw1.trans x8) gr9 (fun b e => HTb.out b (2, 0, 0) (HA8.out.tag (2, 0, 0) _ (by rw [nspec_other _ _ _ _ _ _ (by simp) (by simp)]; rfl) b (by rw [HSV.out]; exact e)))).setCell (HTb.out g (0, 0, 0) (HA8.out.tag (0, 0, 0) _ (by rw [nspec_other _ _ _ _ _ _ (by simp) (by simp)]; rfl) g (by rw [H0.out]; rfl))) _⟩
            case measure => simp [intOf]; omega
          · have hfl' : ¬ (k : Int) < m.flash.length := by omega
            go_upto_region 15 with (fail)
            clear f0 f1 f2
            have hap := HA.out
            rw [show List.replicate c (zeros ln) = (m.sg k s).pages from by unfold MP.sg MP.fl; rw [HL.out.1, HL.out.2, List.getElem?_eq_none (by omega)]; simp [splice, List.set_replicate_self]] at hap
            have xw5 := xq
            obtain ⟨wt, hwt⟩ : ∃ z : World, z = wi := ⟨_, rfl⟩
            rw [← hwt] at hap xw5 xw1 ⊢
            clear hwt
            have kk4 : k < 4 := by have := HN.out.2.1; omega
            obtain ⟨rA, rc, sA2, sc2, hsv, hrv, KG, own7⟩ := nobj hk' hap H0.out
            obtain ⟨g0, g1⟩ := cells2 KG
            obtain ⟨w8, hw8⟩ : ∃ V, V = wt.alloc (.cells #[.slice (some ⟨P, 0, none⟩) c c, .int .i64 0, .int .i64 0] 64) := ⟨_, rfl⟩
            have x8 : Ext wt w8 := by rw [hw8]; exact (Ext.refl _).alloc _
            have sh8 : Shows w8 3 (some ⟨wt.heap.size, 0, none⟩) 1 [.slice (some ⟨P, 0, none⟩) c c, .int .i64 0, .int .i64 0] := by rw [hw8]; exact shows3 rfl
            have own8 := own_ext own7 x8
            have HA8 := Lib.hid (hap.ext x8)
            have HSV := Lib.hid hsv
            clear hap own7 KG hsv hrv
            go_upto_region 16 with (at_builtin; go_loud (rw [← hw8]; refine wpList_appB el60 rfl _ _ rfl own8 rfl sh8 rfl one3 (le_max (by omega)) (by omega) (Nat.zero_le _) ?_; intro v9 w9 own9 gr9 at9; obtain ⟨B9, c9, rfl, _, _⟩ := own9.form (by omega); obtain ⟨va9, T9, ⟨hfz9, u9, hcell9⟩, M9, hT9⟩ := mem_add9 hk' HA8.out H0.out H3.out HOK.out HLN.out HSV.out own9 gr9 at9; have HM9 := Lib.hid M9; clear M9))
            go_wp2
            go_roundw
            case rel => exact ⟨k + 1, va9, T9, by go_num, by omega, by rw [← ms_add HS.out]; exact HM9.out, fun b t hb => (hT9 b t hb).elim (fun h => by obtain ⟨t', ht'⟩ := Option.ne_none_iff_exists'.1 h; exact HTb.out b t' ht') (fun h => by have := xw1.size; have := x8.size; omega), (Ext.of_grown (xw1.trans x8) gr9 (fun b e => HTb.out b (2, 0, 0) (HA8.out.tag (2, 0, 0) _ (by rw [nspec_other _ _ _ _ _ _ (by simp) (by simp)]; rfl) b (by rw [HSV.out]; exact e)))).setCell (HTb.out g (0, 0, 0) (HA8.out.tag (0, 0, 0) _ (by rw [nspec_other _ _ _ _ _ _ (by simp) (by simp)]; rfl) g (by rw [H0.out]; rfl))) _⟩
            case measure => simp [intOf]; omega
    · obtain rfl : k = m.segs.length := by omega
      have HM2 := Lib.hid M
      have HT := Lib.hid hT
      clear M hT
      go_wp2
      go_ret2
      exact ⟨g, va, T, rfl, HX.out.trans xr, HM2.out, fun b t hb => Nat.le_trans HX.out.size (HT.out b t hb)⟩
end Go.Proofs.Ytjgmnbfadnlikaa
