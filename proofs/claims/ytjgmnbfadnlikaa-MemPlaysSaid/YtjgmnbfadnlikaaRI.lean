import Derived.Test.YtjgmnbfadnlikaaRH
set_option linter.unusedVariables false
set_option linter.unusedSimpArgs false
namespace Go.Proofs.Ytjgmnbfadnlikaa
open Go.RowKit
theorem el65 : Elem Try.prog 65 23 1 24 (.slice none 0 0) := Elem.mk' Try.underlying65 (by kernel_rfl) rfl (by omega)
theorem el66 : Elem Try.prog 66 56 2 16 (.agg #[.int .i64 0, .int .i64 0]) := Elem.mk' Try.underlying66 (by kernel_rfl) rfl (by omega)
theorem size65 : (Try.prog.info? 65).map (·.size) = some 1 := by kernel_rfl
theorem size66 : (Try.prog.info? 66).map (·.size) = some 1 := by kernel_rfl
theorem sg_page {m : MP} {k c ln np : Nat} {s : SM} (h1 : s.len = ln) (h2 : s.pages = np) (hc : c < np) : (m.sg k s).pages[c]? = some (splice (zeros ln) 0 (if c = 0 then m.fl k else [])) := by
  simp only [MP.sg, h1, h2, Int.toNat_natCast, List.getElem?_set]
  by_cases h0 : c = 0
  · subst h0; simp; omega
  · rw [if_neg (fun e => h0 e.symm), if_neg h0]; simp [splice, hc]
theorem zeros_ownB {w : World} {B n : Nat} (h : w.heap[B]? = some (.cells (List.replicate n (.int .u8 0)).toArray 5 (0, 0))) (hn : n ≤ 100000) : w.ownsRow B 5 1 (.slice (some ⟨B, 0, none⟩) n n) n (u8s (zeros n)) := by
  rw [u8s_zeros]
  exact ⟨by simp, .inr ⟨B, n, _, rfl, Nat.le_refl _, h, Nat.le_refl _, le_max (by omega), by simp, by simp⟩⟩
theorem shows2 {w : World} {g : Nat} {x0 x1 : Value} {t : TypeId} (h : g = w.heap.size) : Shows (w.alloc (.cells #[x0, x1] t)) 2 (some ⟨g, 0, none⟩) 1 [x0, x1] := by
  subst h
  have K := heap_alloc_new w (.cells #[x0, x1] t)
  exact ⟨rfl, fun _ => ⟨_, rfl, blk_lt K, fun j u hu => by have := cells_of_blk (off := 0) K j u (by simpa using hu); exact this⟩⟩
section
variable {w : World} {s : MS} {va : Tg → Value} {T : Nat → Option Tg} {lo : Nat}
theorem rn_lo3 {ps : List (List Int)} {k : Nat} (hk : s.segs.length = k) (h : Own w va T (rn s va ps)) (hT : ∀ b t, T b = some t → lo ≤ b) : ∀ b, (va (3, k, 0)).ownBlock = some b → lo ≤ b := by
  subst hk
  exact fun b e => hT _ _ (h.tag _ _ (rn_row s va ps) b e)
theorem rn_lo2 {ps : List (List Int)} (h : Own w va T (rn s va ps)) (hT : ∀ b t, T b = some t → lo ≤ b) : ∀ b, (va (2, 0, 0)).ownBlock = some b → lo ≤ b :=
  fun b e => hT _ _ (h.tag (2, 0, 0) ⟨23, 1, s.segs.length, sgRow va s.segs.length⟩ (by rw [rn_other _ _ _ (by simp) (by simp)]; rfl) b e)
theorem rn2_lo5 {q : Sg} (h : Own w va T (rn2 s q va)) (hT : ∀ b t, T b = some t → lo ≤ b) : ∀ b, (va (5, 0, 0)).ownBlock = some b → lo ≤ b :=
  fun b e => hT _ _ (h.tag (5, 0, 0) ⟨56, 2, s.segs.length, seeRow s.segs⟩ rfl b e)
/-- the object and its rows, ahead of a segment's append. -/
theorem rn_obj {ps : List (List Int)} {k g : Nat} (hk : s.segs.length = k) (h : Own w va T (rn s va ps)) (hg : va (0, 0, 0) = .slice (some ⟨g, 0, none⟩) 1 1) :
    w.heap[g]? = some (.cells #[va (1, 0, 0), va (2, 0, 0), va (5, 0, 0)] 68 (0, 0)) ∧ w.ownsRow 0 23 1 (va (2, 0, 0)) k (sgRow va k) := by
  subst hk
  have h0 := h.own (0, 0, 0) ⟨68, 3, 1, [va (1, 0, 0), va (2, 0, 0), va (5, 0, 0)]⟩ (by rw [rn_other _ _ _ (by simp) (by simp)]; rfl)
  have h2 := h.own (2, 0, 0) ⟨23, 1, s.segs.length, sgRow va s.segs.length⟩ (by rw [rn_other _ _ _ (by simp) (by simp)]; rfl)
  rw [hg] at h0
  exact ⟨own_obj h0, h2⟩
theorem rn2_obj {q : Sg} {k g : Nat} (hk : s.segs.length = k) (h : Own w va T (rn2 s q va)) (hg : va (0, 0, 0) = .slice (some ⟨g, 0, none⟩) 1 1) :
    w.heap[g]? = some (.cells #[va (1, 0, 0), va (2, 0, 0), va (5, 0, 0)] 68 (0, 0)) ∧ w.ownsRow 0 56 2 (va (5, 0, 0)) k (seeRow s.segs) := by
  subst hk
  have h0 := h.own (0, 0, 0) ⟨68, 3, 1, [va (1, 0, 0), va (2, 0, 0), va (5, 0, 0)]⟩ rfl
  have h2 := h.own (5, 0, 0) ⟨56, 2, s.segs.length, seeRow s.segs⟩ rfl
  rw [hg] at h0
  exact ⟨own_obj h0, h2⟩
/-- memory of plain bytes alone. -/
theorem r_first {g B1 : Nat} {ram : List Int} {v : Value} (hg : w.heap[g]? = some (.cells #[v, .slice none 0 0, .slice none 0 0] 68 (0, 0))) (hv : w.ownsRow 0 5 1 v ram.length (u8s ram)) (hvb : ∀ b, v.ownBlock = some b → b = B1) (hB : B1 < w.heap.size) (hne : B1 ≠ g) (hl : ram.length ≤ 1024) (hb : Byts ram) :
    MemR w g ⟨ram, []⟩ (fun t => if t = (0, 0, 0) then .slice (some ⟨g, 0, none⟩) 1 1 else if t = (1, 0, 0) then v else .slice none 0 0) (fun b => if b = g then some (0, 0, 0) else if b = B1 then some (1, 0, 0) else none) := by
  have hcase : ∀ t p, rspec ⟨ram, []⟩ (fun t => if t = (0, 0, 0) then .slice (some ⟨g, 0, none⟩) 1 1 else if t = (1, 0, 0) then v else .slice none 0 0) t = some p → (t = (0, 0, 0) ∧ p = ⟨68, 3, 1, [v, .slice none 0 0, .slice none 0 0]⟩) ∨ (t = (1, 0, 0) ∧ p = ⟨5, 1, ram.length, u8s ram⟩) ∨ (t = (2, 0, 0) ∧ p = ⟨23, 1, 0, []⟩) ∨ (t = (5, 0, 0) ∧ p = ⟨56, 2, 0, []⟩) := by
    rintro ⟨a, b, c⟩ p hp
    match a with
    | 0 => simp [rspec] at hp; obtain ⟨⟨rfl, rfl⟩, hp⟩ := hp; exact .inl ⟨rfl, hp.symm⟩
    | 1 => simp [rspec, mspec] at hp; obtain ⟨⟨rfl, rfl⟩, hp⟩ := hp; exact .inr (.inl ⟨rfl, hp.symm⟩)
    | 2 => simp [rspec, sgRow] at hp; obtain ⟨⟨rfl, rfl⟩, hp⟩ := hp; exact .inr (.inr (.inl ⟨rfl, hp.symm⟩))
    | 3 => simp [rspec, mspec] at hp
    | 4 => simp [rspec, mspec] at hp
    | 5 => simp [rspec, seeRow] at hp; obtain ⟨⟨rfl, rfl⟩, hp⟩ := hp; exact .inr (.inr (.inr ⟨rfl, hp.symm⟩))
    | n + 6 => simp [rspec, mspec] at hp
  refine ⟨⟨fun t p hp => ?_, fun t p hp b hb => ?_, fun b t hb => ?_⟩, by simp, ⟨hl, hb, by simp, by simp⟩⟩
  · rcases hcase t p hp with ⟨rfl, rfl⟩ | ⟨rfl, rfl⟩ | ⟨rfl, rfl⟩ | ⟨rfl, rfl⟩
    · simp only [if_true]
      exact obj_own (xs := [v, .slice none 0 0, .slice none 0 0]) hg (Nat.zero_le _) rfl
    · simpa using hv
    · simp; exact ⟨rfl, .inl ⟨rfl, rfl⟩⟩
    · simp; exact ⟨rfl, .inl ⟨rfl, rfl⟩⟩
  · rcases hcase t p hp with ⟨rfl, rfl⟩ | ⟨rfl, rfl⟩ | ⟨rfl, rfl⟩ | ⟨rfl, rfl⟩
    · simp [Value.ownBlock] at hb
      simp [hb]
    · simp at hb
      have := hvb b hb
      subst this
      simp [hne]
    · simp [Value.ownBlock] at hb
    · simp [Value.ownBlock] at hb
  · by_cases e : b = g
    · subst e; exact blk_lt hg
    · rw [if_neg e] at hb
      by_cases e2 : b = B1
      · subst e2; exact hB
      · simp [e2] at hb
end
set_option maxRecDepth 100000 in
set_option maxHeartbeats 4000000 in
theorem r_new_no {w : World} {m : MP} {sA fA : Option Addr} {sc fc : Nat} (h : MpR w m sA fA sc fc) (hm : m.may = false) : Calls Try.prog 11 #[.agg #[.int .i64 m.ram, .slice sA m.segs.length sc, .slice fA m.flash.length fc]] w fun e w' => e = .returned (.tuple #[.pointer none, .int .i64 1]) ∧ Ext w w' := by
  obtain ⟨w1, hw1⟩ : ∃ V, V = w.alloc (.cells #[.int .i64 m.ram, .slice sA m.segs.length sc, .slice fA m.flash.length fc] 25) := ⟨_, rfl⟩
  have K1 : w1.heap[w.heap.size]? = some (.cells #[.int .i64 m.ram, .slice sA m.segs.length sc, .slice fA m.flash.length fc] 25 (0, 0)) := by rw [hw1]; exact heap_alloc_new _ _
  have x1 : Ext w w1 := by rw [hw1]; exact (Ext.refl _).alloc _
  have hc := r_right (h.ext x1)
  rw [hm] at hc
  have HC := Lib.hid hc
  have HX := Lib.hid x1
  clear h hc x1 hm
  go_enter Try.func11, Try.ntmps11
  go_upto_region 1 with (fail)
  rw [← hw1]
  clear hw1
  go_wp2_with (first | refine wpList_ldrow rfl 25 (.tmp 1) rfl K1 rfl Try.underlying25 rfl (by kernel_rfl) ?_ | (go_at_call 28; (refine HC.out.mono ?_); rintro e w2 ⟨rfl, x2⟩))
  go_ret2
  exact ⟨rfl, HX.out.trans x2⟩
set_option maxRecDepth 100000 in
set_option maxHeartbeats 8000000 in
theorem r_new_yes {w : World} {m : MP} {sA fA : Option Addr} {sc fc : Nat} (h : MpR w m sA fA sc fc) (hm : m.may = true) : Calls Try.prog 11 #[.agg #[.int .i64 m.ram, .slice sA m.segs.length sc, .slice fA m.flash.length fc]] w fun e w' => ∃ g va T, e = .returned (.tuple #[.pointer (some ⟨g, 0, none⟩), .int .i64 0]) ∧ Ext w w' ∧ MemR w' g (m.ms m.segs.length) va T ∧ ∀ b t, T b = some t → w.heap.size ≤ b := by
  obtain ⟨w1, hw1⟩ : ∃ V, V = w.alloc (.cells #[.int .i64 m.ram, .slice sA m.segs.length sc, .slice fA m.flash.length fc] 25) := ⟨_, rfl⟩
  have K1 : w1.heap[w.heap.size]? = some (.cells #[.int .i64 m.ram, .slice sA m.segs.length sc, .slice fA m.flash.length fc] 25 (0, 0)) := by rw [hw1]; exact heap_alloc_new _ _
  have x1 : Ext w w1 := by rw [hw1]; exact (Ext.refl _).alloc _
  obtain ⟨a1, a2, a3, a4⟩ := may_head hm
  obtain ⟨rn0, hrn⟩ : ∃ rn : Nat, m.ram = rn := ⟨m.ram.toNat, by omega⟩
  have hc := r_right (h.ext x1)
  rw [hm] at hc
  have h0 : (0 : Int) ≤ rn0 := by omega
  have HC := Lib.hid hc
  have HX := Lib.hid x1
  have HM := Lib.hid hm
  have H1 := Lib.hid (h.ext x1)
  have HN := Lib.hid (show rn0 ≤ 1024 ∧ m.segs.length ≤ 4 ∧ m.flash.length ≤ m.segs.length ∧ m.ram = rn0 from ⟨by omega, a3, a4, hrn⟩)
  have hrn1 : rn0 ≤ 1024 := by omega
  clear h hc x1 hm a1 a2 a3 a4
  rw [hrn] at K1 HC ⊢
  rw [hrn] at hw1
  clear hrn
  go_enter Try.func11, Try.ntmps11
  go_upto_region 1 with (fail)
  rw [← hw1]
  clear hw1
  go_upto_region 3 with (first | refine wpList_ldrow rfl 25 (.tmp 1) rfl K1 rfl Try.underlying25 rfl (by kernel_rfl) ?_ | (go_at_call 28; (refine HC.out.mono ?_); rintro e w2 ⟨rfl, x2⟩))
  have K2 := (x2.block _ (blk_lt K1)).trans K1
  obtain ⟨f0, f1, f2⟩ := cells3 K2
  go_upto_region 4 with (at_make; refine wpList_make1 el37 rfl rfl _ _ rfl rfl rfl h0 (by omega) (by omega) ?_; intro w3 hg3 x3 hs3)
  obtain ⟨w4, hw4⟩ : ∃ V, V = w3.alloc (.cells #[.slice (some ⟨w2.heap.size, 0, none⟩) rn0 rn0, .slice none 0 0, .slice none 0 0] 68) := ⟨_, rfl⟩
  have k4 : w4.heap[w3.heap.size]? = some (.cells #[.slice (some ⟨w2.heap.size, 0, none⟩) rn0 rn0, .slice none 0 0, .slice none 0 0] 68 (0, 0)) := by rw [hw4]; exact heap_alloc_new _ _
  have x4 : Ext w3 w4 := by rw [hw4]; exact (Ext.refl _).alloc _
  rw [← hw4]
  clear hw4
  have hg3' : w3.heap[w2.heap.size]? = some (.cells (List.replicate rn0 (.int .u8 0)).toArray 5 (0, 0)) := by have := hg3.out; simpa using this
  have o3 := own_ext (zeros_own hg3' (by omega)) x4
  rw [← zeros_len rn0] at o3
  have S0 := r_first (g := w3.heap.size) (B1 := w2.heap.size) (ram := zeros rn0) (v := .slice (some ⟨w2.heap.size, 0, none⟩) (zeros rn0).length (zeros rn0).length) (by rw [zeros_len]; exact k4) (by simpa only [zeros_len] using o3) (fun b e => by injection e with e; exact e.symm) (by have := x4.size; have := x3.size; have := blk_lt hg3'; omega) (by have := blk_lt hg3'; omega) (by rw [zeros_len]; exact hrn1) (zeros_byts _)
  obtain ⟨g, hgE⟩ : ∃ g, g = w3.heap.size := ⟨_, rfl⟩
  rw [← hgE] at S0 ⊢
  have em0 : m.ms 0 = ⟨zeros rn0, []⟩ := by unfold MP.ms; rw [HN.out.2.2.2]; rfl
  rw [← em0] at S0
  have x14 : Ext w1 w4 := x2.trans (x3.trans x4)
  have hb0 : ∀ b t, (if b = g then some ((0, 0, 0) : Tg) else if b = w2.heap.size then some (1, 0, 0) else none) = some t → w1.heap.size ≤ b := by
    intro b t hb
    have s2 := x2.size
    have s3 := x3.size
    by_cases e : b = g
    · omega
    · by_cases e2 : b = w2.heap.size
      · omega
      · simp [e, e2] at hb
  have HS0 := Lib.hid S0
  have HB0 := Lib.hid hb0
  have HF012 := Lib.hid (fun W (x : Ext w1 W) => cells3 ((x.block _ (blk_lt K1)).trans K1))
  clear S0 hb0 hg3 hg3' o3 k4 x2 x3 x4 hgE em0 hs3 f0 f1 f2 h0 K2 K1
  go_wp2
  go_loopw [5] (fun v wr => ∃ (k : Nat) (va : Tg → Value) (T : Nat → Option Tg), v = .int .i64 k ∧ k ≤ m.segs.length ∧ MemR wr g (m.ms k) va T ∧ (∀ b t, T b = some t → w1.heap.size ≤ b) ∧ Ext w1 wr) (fun v _ => m.segs.length - (intOf v).toNat)
  case atStart => exact ⟨0, _, _, rfl, Nat.zero_le _, HS0.out, HB0.out, x14⟩
  case round =>
    clear HS0 HB0 x14
    obtain ⟨k, va, T, rfl, hk, M, hT, xr⟩ := hrel
    obtain ⟨wo, rfl⟩ : ∃ z : World, z = wr := ⟨_, rfl⟩
    obtain ⟨f0, f1, f2⟩ := HF012.out _ xr
    by_cases hlt : k < m.segs.length
    · have hkn : (k : Int) < m.segs.length := by omega
      obtain ⟨s, hs⟩ : ∃ s, m.segs[k]? = some s := ⟨_, List.getElem?_eq_getElem hlt⟩
      obtain ⟨q1, q2, q3, q4⟩ := may_seg HM.out hs
      obtain ⟨ln, hln⟩ : ∃ ln : Nat, s.len = ln := ⟨s.len.toNat, by omega⟩
      obtain ⟨np, hnp⟩ : ∃ np : Nat, s.pages = np := ⟨s.pages.toNat, by omega⟩
      obtain ⟨b, o, hA, hb, hr⟩ := Shows.row sm_len (by omega) H1.out.segs rfl hs
      have r0 := hr 0 _ rfl
      have r1 := hr 1 _ rfl
      rw [hln] at r0
      rw [hnp] at r1
      simp only [Nat.add_zero] at r0
      have HSEG := Lib.hid (fun W (x : Ext w1 W) => And.intro (cell_ext x r0) (cell_ext x r1))
      have hk' : (m.ms k).segs.length = k := ms_len (by omega)
      have hz := rn_zero M.O
      have hg0 := M.g0
      rw [hk'] at hz
      have HZ := Lib.hid hz
      have HG0 := Lib.hid hg0
      have HT := Lib.hid hT
      have HS := Lib.hid hs
      have p4 : np ≤ 4 := by omega
      have p1 : 1 ≤ np := by omega
      have l256 : ln ≤ 256 := by omega
      have l1 : 1 ≤ ln := by omega
      have HL := Lib.hid (show s.len = ln ∧ s.pages = np from ⟨hln, hnp⟩)
      have HLN := Lib.hid (show (m.sg k s).pages.length = np by simp [MP.sg, hnp])
      have HFLK := Lib.hid (show (m.fl k).length ≤ ln by have := (fl_ok H1.out HM.out hs).1; omega)
      subst hA
      clear M hT hs hz hg0 hr r0 r1 q1 q2 q3 q4 hln hnp
      go_wp2
      clear f0 f1 f2
      go_loopw [6, 7] (fun pv v wq => ∃ (c : Nat) (vb : Tg → Value) (Tb : Nat → Option Tg), v = .int .i64 c ∧ c ≤ np ∧ Own wq vb Tb (rn (m.ms k) vb ((m.sg k s).pages.take c)) ∧ vb (3, k, 0) = pv ∧ vb (0, 0, 0) = .slice (some ⟨g, 0, none⟩) 1 1 ∧ (∀ b t, Tb b = some t → w1.heap.size ≤ b) ∧ Ext w1 wq) (fun _ v _ => np - (intOf v).toNat)
      case atStart => exact ⟨0, _, _, rfl, Nat.zero_le _, HZ.out, by simp, by simp; exact HG0.out, HT.out, xr⟩
      case round =>
        clear HZ HG0 HT
        obtain ⟨c, vb, Tb, rfl, hc, A, hv3, hv0, hTb, xw⟩ := hrel
        obtain ⟨wi, rfl⟩ : ∃ z : World, z = wr := ⟨_, rfl⟩
        obtain ⟨f0, f1, f2⟩ := HF012.out _ xw
        obtain ⟨m0, m1⟩ := HSEG.out _ xw
        have HA := Lib.hid A
        have H3 := Lib.hid hv3
        have H0 := Lib.hid hv0
        have HTb := Lib.hid hTb
        clear A hv3 hv0 hTb
        by_cases hct : c < np
        · have hcn : (c : Int) < np := by omega
          have l0 : (0 : Int) ≤ ln := by omega
          go_upto_region 12 with (at_make; refine wpList_make1 el37 rfl rfl _ _ rfl rfl rfl l0 (by omega) (by omega) ?_; intro w7 hg7 x7 hs7)
          have hg7' : w7.heap[wi.heap.size]? = some (.cells (List.replicate ln (.int .u8 0)).toArray 5 (0, 0)) := by have := hg7.out; simpa using this
          have HO7 := Lib.hid (zeros_ownB hg7' (by omega))
          clear hg7 hg7' hs7 f0 f1 f2 m0 m1
          have HFL := Lib.hid (show (if c = 0 then m.fl k else []).length ≤ ln ∧ True from ⟨by split; exact HFLK.out; simp, trivial⟩)
          by_cases hc0 : c = 0
          · subst hc0
            by_cases hlf : k < m.flash.length
            · have hkf : (k : Int) < m.flash.length := by omega
              obtain ⟨f, hf⟩ : ∃ f, m.flash[k]? = some f := ⟨_, List.getElem?_eq_getElem hlf⟩
              obtain ⟨b2, o2, hA3, _, hr2⟩ := Shows.row fb_len (by omega) H1.out.flash rfl hf
              have q2 := hr2 0 _ rfl
              simp only [Nat.mul_one, Nat.add_zero] at q2
              have HQ2 := Lib.hid q2
              have hrd := H1.out.rd f (List.mem_of_getElem? hf)
              have HFR := Lib.hid (And.intro hrd.1 (show f.n ≤ ln by have := may_fit HM.out HS.out hf; have := HL.out.1; omega))
              have HFE := Lib.hid (show m.fl k = f.bs by unfold MP.fl; rw [hf])
              subst hA3
              clear hr2 hf q2 hrd
              go_wp2
              go_loopw [9] (fun v wq => ∃ j : Nat, v = .int .i64 j ∧ j ≤ f.n ∧ wq.ownsRow wi.heap.size 5 1 (.slice (some ⟨wi.heap.size, 0, none⟩) ln ln) ln (splice (u8s (zeros ln)) 0 ((u8s f.bs).take j)) ∧ Ext wi wq) (fun v _ => f.n - (intOf v).toNat)
              case atStart => exact ⟨0, rfl, Nat.zero_le _, by have := HO7.out; simpa [splice] using this, x7⟩
              case round =>
                obtain ⟨j, rfl, hj, own, xj⟩ := hrel
                obtain ⟨wj, rfl⟩ : ∃ z : World, z = wr := ⟨_, rfl⟩
                have xwj := xw.trans xj
                obtain ⟨f0, f1, f2⟩ := HF012.out _ xwj
                have q2 := cell_ext xwj HQ2.out
                by_cases hjt : j < f.n
                · have hjn : (j : Int) < f.n := by omega
                  obtain ⟨bb, off, hbA, _, hcell⟩ := (HFR.out.1.ext xwj).cell hjt
                  have hfl := HFR.out.1.len
                  obtain ⟨x, hx⟩ : ∃ x, x = f.bs.getD j 0 := ⟨_, rfl⟩
                  have hxk : (u8s f.bs)[j]? = some (.int .u8 x) := by rw [hx]; simp [u8s, List.getD_eq_getElem?_getD, List.getElem?_eq_getElem (show j < f.bs.length by omega)]
                  rw [← hx] at hcell
                  obtain ⟨B, c2, e, own2, gr2, hfz, hc2, hBl⟩ := own_set own (i := 0 + j) (by have := HFR.out.2; omega) (.int .u8 x)
                  rw [splice_step hxk (by simp [u8s, hfl, zeros_len]; have := HFR.out.2; omega)] at own2
                  injection e with e1 e2 e3
                  injection e1 with e1
                  injection e1 with e1
                  subst e1
                  rw [Nat.zero_add] at own2 gr2 hfz hc2
                  have hcu : ∃ u, wj.cell? ⟨wi.heap.size, j, none⟩ = some u := by
                    rw [hc2]
                    exact ⟨_, List.getElem?_eq_getElem (by have h1 := own.1; have := HFR.out.2; omega)⟩
                  obtain ⟨u, hu⟩ := hcu
                  have hjl : j < ln := by have := HFR.out.2; omega
                  have hjl2 : (j : Int) < ln := by omega
                  have HOW := Lib.hid own2
                  rw [hbA] at q2
                  clear hbA own own2 gr2 hx hxk hc2 hfl e2 e3
                  go_wp2
                  go_roundw
                  case rel => exact ⟨j + 1, by go_num, by omega, HOW.out, xj.setCell (by simp) _⟩
                  case measure => simp [intOf]; omega
                · obtain rfl : j = f.n := by omega
                  rw [List.take_of_length_le (by simp [u8s, HFR.out.1.len]), u8s_splice] at own
                  have hfe := HFE.out
                  rw [← hfe] at own
                  have own : wj.ownsRow wi.heap.size 5 1 (.slice (some ⟨wi.heap.size, 0, none⟩) ln ln) ln (u8s (splice (zeros ln) 0 (if (0 : Nat) = 0 then m.fl k else []))) := by rw [if_pos rfl]; exact own
                  clear hfe
                  have hbn : (if (0 : Nat) = 0 then m.fl k else []).length ≤ ln := HFL.out.1
                  have opj := own
                  obtain ⟨p, hpE⟩ : ∃ p, p = splice (zeros ln) 0 (if (0 : Nat) = 0 then m.fl k else []) := ⟨_, rfl⟩
                  rw [← hpE] at opj
                  have hpl : p.length = ln := by rw [hpE, length_splice _ _ _ (by rw [zeros_len]; omega), zeros_len]
                  have hpc : (m.sg k s).pages[(0 : Nat)]? = some p := by rw [hpE]; exact sg_page HL.out.1 HL.out.2 hct
                  have hpt : (m.sg k s).pages.take (0 : Nat) ++ [p] = (m.sg k s).pages.take ((0 : Nat) + 1) := by rw [List.take_add_one, hpc]; rfl
                  have htl : ((m.sg k s).pages.take (0 : Nat)).length = (0 : Nat) := by rw [List.length_take]; have := (List.getElem?_eq_some_iff.1 hpc).1; omega
                  obtain ⟨w8, hw8⟩ : ∃ V, V = wj.alloc (.cells #[.slice (some ⟨wi.heap.size, 0, none⟩) ln ln] 37) := ⟨_, rfl⟩
                  have x8 : Ext wj w8 := by rw [hw8]; exact (Ext.refl _).alloc _
                  have sh8 : Shows w8 1 (some ⟨wj.heap.size, 0, none⟩) 1 [.slice (some ⟨wi.heap.size, 0, none⟩) ln ln] := by rw [hw8]; exact Shows.new1 _ _ _
                  have hrow : wi.ownsRow 0 37 1 (vb (3, k, 0)) (0 : Nat) (pgRow vb k (0 : Nat)) := HA.out.own (3, k, 0) ⟨37, 1, (0 : Nat), pgRow vb k (0 : Nat)⟩ (by have := rn_row (m.ms k) vb ((m.sg k s).pages.take (0 : Nat)); rw [hk', htl] at this; exact this)
                  rw [H3.out] at hrow
                  have own8 := own_ext hrow (xj.trans x8)
                  rw [← hpl] at opj
                  have HO := Lib.hid opj
                  have HPT := Lib.hid (And.intro hpt (And.intro htl hpl))
                  clear own opj hpE hpc hpt htl hpl hrow
                  go_wp2_with (at_builtin; go_loud (rw [← hw8]; refine wpList_appB el23 rfl _ _ rfl own8 rfl sh8 rfl (fun u hu => by simp at hu; subst hu; rfl) (le_max (by omega)) (by omega) (Nat.zero_le _) ?_; intro v9 w9 own9 gr9 at9; obtain ⟨B9, c9, rfl, _, _⟩ := own9.form (by omega)))
                  obtain ⟨va9, T9, O9, h93, h90, hT9⟩ := rn_step (lo := w1.heap.size) hk' HPT.out.2.1 HA.out xj (by have := HO.out; rw [HPT.out.2.2] at this ⊢; exact this) rfl x8 own9 (by rw [H3.out]; exact gr9) rfl (by rw [H3.out]; exact at9) HTb.out (by have := xw.size; omega)
                  rw [HPT.out.1] at O9
                  have HR9 := Lib.hid (And.intro O9 (And.intro h93 (And.intro h90 hT9)))
                  have xw9 : Ext w1 w9 := Ext.of_grown ((xw.trans xj).trans x8) gr9 (fun b e => rn_lo3 hk' HA.out HTb.out b (by rw [H3.out]; exact e))
                  clear O9 h93 h90 hT9 own9 gr9 at9 own8 sh8
                  go_roundw
                  case rel => exact ⟨(0 : Nat) + 1, va9, T9, by go_num, by omega, HR9.out.1, HR9.out.2.1, by rw [HR9.out.2.2.1]; exact H0.out, HR9.out.2.2.2, xw9⟩
                  case measure => simp [intOf]; omega
            · have hkf : ¬ (k : Int) < m.flash.length := by omega
              have HFE := Lib.hid (show m.fl k = [] by unfold MP.fl; rw [List.getElem?_eq_none (by omega)])
              go_wp2
              go_loopw [9] (fun v wq => v = .int .i64 0 ∧ wq = w7) (fun _ _ => 0)
              case atStart => exact ⟨rfl, rfl⟩
              case round =>
                obtain ⟨rfl, rfl⟩ := hrel
                obtain ⟨wj, rfl⟩ : ∃ z : World, z = wr := ⟨_, rfl⟩
                have own := HO7.out
                have xj := x7
                obtain ⟨f0, f1, f2⟩ := HF012.out _ (xw.trans xj)
                have own : wj.ownsRow wi.heap.size 5 1 (.slice (some ⟨wi.heap.size, 0, none⟩) ln ln) ln (u8s (splice (zeros ln) 0 (if (0 : Nat) = 0 then m.fl k else []))) := by rw [if_pos rfl, HFE.out]; simpa [splice] using own
                have hbn : (if (0 : Nat) = 0 then m.fl k else []).length ≤ ln := HFL.out.1
                have opj := own
                obtain ⟨p, hpE⟩ : ∃ p, p = splice (zeros ln) 0 (if (0 : Nat) = 0 then m.fl k else []) := ⟨_, rfl⟩
                rw [← hpE] at opj
                have hpl : p.length = ln := by rw [hpE, length_splice _ _ _ (by rw [zeros_len]; omega), zeros_len]
                have hpc : (m.sg k s).pages[(0 : Nat)]? = some p := by rw [hpE]; exact sg_page HL.out.1 HL.out.2 hct
                have hpt : (m.sg k s).pages.take (0 : Nat) ++ [p] = (m.sg k s).pages.take ((0 : Nat) + 1) := by rw [List.take_add_one, hpc]; rfl
                have htl : ((m.sg k s).pages.take (0 : Nat)).length = (0 : Nat) := by rw [List.length_take]; have := (List.getElem?_eq_some_iff.1 hpc).1; omega
                obtain ⟨w8, hw8⟩ : ∃ V, V = wj.alloc (.cells #[.slice (some ⟨wi.heap.size, 0, none⟩) ln ln] 37) := ⟨_, rfl⟩
                have x8 : Ext wj w8 := by rw [hw8]; exact (Ext.refl _).alloc _
                have sh8 : Shows w8 1 (some ⟨wj.heap.size, 0, none⟩) 1 [.slice (some ⟨wi.heap.size, 0, none⟩) ln ln] := by rw [hw8]; exact Shows.new1 _ _ _
                have hrow : wi.ownsRow 0 37 1 (vb (3, k, 0)) (0 : Nat) (pgRow vb k (0 : Nat)) := HA.out.own (3, k, 0) ⟨37, 1, (0 : Nat), pgRow vb k (0 : Nat)⟩ (by have := rn_row (m.ms k) vb ((m.sg k s).pages.take (0 : Nat)); rw [hk', htl] at this; exact this)
                rw [H3.out] at hrow
                have own8 := own_ext hrow (xj.trans x8)
                rw [← hpl] at opj
                have HO := Lib.hid opj
                have HPT := Lib.hid (And.intro hpt (And.intro htl hpl))
                clear own opj hpE hpc hpt htl hpl hrow
                go_wp2_with (at_builtin; go_loud (rw [← hw8]; refine wpList_appB el23 rfl _ _ rfl own8 rfl sh8 rfl (fun u hu => by simp at hu; subst hu; rfl) (le_max (by omega)) (by omega) (Nat.zero_le _) ?_; intro v9 w9 own9 gr9 at9; obtain ⟨B9, c9, rfl, _, _⟩ := own9.form (by omega)))
                obtain ⟨va9, T9, O9, h93, h90, hT9⟩ := rn_step (lo := w1.heap.size) hk' HPT.out.2.1 HA.out xj (by have := HO.out; rw [HPT.out.2.2] at this ⊢; exact this) rfl x8 own9 (by rw [H3.out]; exact gr9) rfl (by rw [H3.out]; exact at9) HTb.out (by have := xw.size; omega)
                rw [HPT.out.1] at O9
                have HR9 := Lib.hid (And.intro O9 (And.intro h93 (And.intro h90 hT9)))
                have xw9 : Ext w1 w9 := Ext.of_grown ((xw.trans xj).trans x8) gr9 (fun b e => rn_lo3 hk' HA.out HTb.out b (by rw [H3.out]; exact e))
                clear O9 h93 h90 hT9 own9 gr9 at9 own8 sh8
                go_roundw
                case rel => exact ⟨(0 : Nat) + 1, va9, T9, by go_num, by omega, HR9.out.1, HR9.out.2.1, by rw [HR9.out.2.2.1]; exact H0.out, HR9.out.2.2.2, xw9⟩
                case measure => simp [intOf]; omega
          · have hcz : ((c : Int) == 0) = false := by simp; omega
            have hcz2 : ¬ ((c : Int) = 0) := by omega
            go_wp2
            go_loopw [9] (fun v wq => v = .int .i64 0 ∧ wq = w7) (fun _ _ => 0)
            case atStart => exact ⟨rfl, rfl⟩
            case round =>
              obtain ⟨rfl, rfl⟩ := hrel
              obtain ⟨wj, rfl⟩ : ∃ z : World, z = wr := ⟨_, rfl⟩
              have own := HO7.out
              have xj := x7
              have own : wj.ownsRow wi.heap.size 5 1 (.slice (some ⟨wi.heap.size, 0, none⟩) ln ln) ln (u8s (splice (zeros ln) 0 (if c = 0 then m.fl k else []))) := by rw [if_neg hc0]; simpa [splice] using own
              have hbn : (if c = 0 then m.fl k else []).length ≤ ln := HFL.out.1
              have opj := own
              obtain ⟨p, hpE⟩ : ∃ p, p = splice (zeros ln) 0 (if c = 0 then m.fl k else []) := ⟨_, rfl⟩
              rw [← hpE] at opj
              have hpl : p.length = ln := by rw [hpE, length_splice _ _ _ (by rw [zeros_len]; omega), zeros_len]
              have hpc : (m.sg k s).pages[c]? = some p := by rw [hpE]; exact sg_page HL.out.1 HL.out.2 hct
              have hpt : (m.sg k s).pages.take c ++ [p] = (m.sg k s).pages.take (c + 1) := by rw [List.take_add_one, hpc]; rfl
              have htl : ((m.sg k s).pages.take c).length = c := by rw [List.length_take]; have := (List.getElem?_eq_some_iff.1 hpc).1; omega
              obtain ⟨w8, hw8⟩ : ∃ V, V = wj.alloc (.cells #[.slice (some ⟨wi.heap.size, 0, none⟩) ln ln] 37) := ⟨_, rfl⟩
              have x8 : Ext wj w8 := by rw [hw8]; exact (Ext.refl _).alloc _
              have sh8 : Shows w8 1 (some ⟨wj.heap.size, 0, none⟩) 1 [.slice (some ⟨wi.heap.size, 0, none⟩) ln ln] := by rw [hw8]; exact Shows.new1 _ _ _
              have hrow : wi.ownsRow 0 37 1 (vb (3, k, 0)) c (pgRow vb k c) := HA.out.own (3, k, 0) ⟨37, 1, c, pgRow vb k c⟩ (by have := rn_row (m.ms k) vb ((m.sg k s).pages.take c); rw [hk', htl] at this; exact this)
              rw [H3.out] at hrow
              have own8 := own_ext hrow (xj.trans x8)
              rw [← hpl] at opj
              have HO := Lib.hid opj
              have HPT := Lib.hid (And.intro hpt (And.intro htl hpl))
              clear own opj hpE hpc hpt htl hpl hrow
              go_wp2_with (at_builtin; go_loud (rw [← hw8]; refine wpList_appB el23 rfl _ _ rfl own8 rfl sh8 rfl (fun u hu => by simp at hu; subst hu; rfl) (le_max (by omega)) (by omega) (Nat.zero_le _) ?_; intro v9 w9 own9 gr9 at9; obtain ⟨B9, c9, rfl, _, _⟩ := own9.form (by omega)))
              obtain ⟨va9, T9, O9, h93, h90, hT9⟩ := rn_step (lo := w1.heap.size) hk' HPT.out.2.1 HA.out xj (by have := HO.out; rw [HPT.out.2.2] at this ⊢; exact this) rfl x8 own9 (by rw [H3.out]; exact gr9) rfl (by rw [H3.out]; exact at9) HTb.out (by have := xw.size; omega)
              rw [HPT.out.1] at O9
              have HR9 := Lib.hid (And.intro O9 (And.intro h93 (And.intro h90 hT9)))
              have xw9 : Ext w1 w9 := Ext.of_grown ((xw.trans xj).trans x8) gr9 (fun b e => rn_lo3 hk' HA.out HTb.out b (by rw [H3.out]; exact e))
              clear O9 h93 h90 hT9 own9 gr9 at9 own8 sh8
              go_roundw
              case rel => exact ⟨c + 1, va9, T9, by go_num, by omega, HR9.out.1, HR9.out.2.1, by rw [HR9.out.2.2.1]; exact H0.out, HR9.out.2.2.2, xw9⟩
              case measure => simp [intOf]; omega
        · obtain rfl : c = np := by omega
          have hall : (m.sg k s).pages.take c = (m.sg k s).pages := by rw [List.take_of_length_le (by rw [HLN.out]; exact Nat.le_refl _)]
          have hA := HA.out
          rw [hall] at hA
          have HA2 := Lib.hid hA
          obtain ⟨KG, own7⟩ := rn_obj hk' hA H0.out
          obtain ⟨g0, g1, g2⟩ := cells3 KG
          obtain ⟨sA2, sc2, hsv, _, _⟩ := own_form own7
          rw [hsv] at g1 own7
          obtain ⟨pA, pc, hpv⟩ : ∃ A c', vb (3, k, 0) = .slice A c c' := by
            have h3 := hA.own (3, k, 0) ⟨37, 1, c, pgRow vb k c⟩ (by have := rn_row (m.ms k) vb (m.sg k s).pages; rw [hk', HLN.out] at this; exact this)
            obtain ⟨A, c', e, _, _⟩ := own_form h3
            exact ⟨A, c', e⟩
          have H3' := H3.out
          rw [hpv] at H3'
          subst H3'
          have HPV := Lib.hid hpv
          obtain ⟨w8, hw8⟩ : ∃ V, V = wi.alloc (.cells #[.slice pA c pc] 23) := ⟨_, rfl⟩
          have x8 : Ext wi w8 := by rw [hw8]; exact (Ext.refl _).alloc _
          have sh8 : Shows w8 1 (some ⟨wi.heap.size, 0, none⟩) 1 [.slice pA c pc] := by rw [hw8]; exact Shows.new1 _ _ _
          have own8 := own_ext own7 x8
          have HSV := Lib.hid hsv
          have HOK := Lib.hid (show ((m.ms k).add (m.sg k s)).ok from by rw [ms_add HS.out]; exact ms_ok H1.out HM.out (by omega))
          have k4' : k < 4 := by have := HN.out.2.1; omega
          clear hA KG own7 hsv hpv hall g0 g2
          go_upto_region 18 with (at_builtin; go_loud (rw [← hw8]; refine wpList_appB el65 rfl _ _ rfl own8 rfl sh8 rfl (fun u hu => by simp at hu; subst hu; rfl) (le_max (by omega)) (by omega) (Nat.zero_le _) ?_; intro v9 w9 own9 gr9 at9; obtain ⟨B9, c9, rfl, _, _⟩ := own9.form (by omega); have RS := rn_seg (lo := w1.heap.size) hk' HA2.out H0.out HSV.out HPV.out x8 own9 gr9 rfl at9 HTb.out (by have := xw.size; omega); obtain ⟨⟨hfz9, u9, hcell9⟩, hgl, va9, T9, O9, h90, h95, hT9⟩ := RS))
          obtain ⟨w10, hw10⟩ : ∃ V, V = w9.setCell ⟨g, 1, none⟩ (.slice (some ⟨B9, 0, none⟩) (k + 1) c9) := ⟨_, rfl⟩
          have xw10 : Ext w1 w10 := by rw [hw10]; exact (Ext.of_grown (xw.trans x8) gr9 (fun b e => rn_lo2 HA2.out HTb.out b (by rw [HSV.out]; exact e))).setCell hgl _
          rw [← hw10] at O9 ⊢
          obtain ⟨KG, own10⟩ := rn2_obj hk' O9 h90
          obtain ⟨g0, g1, g2⟩ := cells3 KG
          obtain ⟨eA2, ec2, hev, _, _⟩ := own_form own10
          rw [hev] at g2 own10
          obtain ⟨w11, hw11⟩ : ∃ V, V = w10.alloc (.cells #[.int .i64 0, .int .i64 0] 56) := ⟨_, rfl⟩
          have x11 : Ext w10 w11 := by rw [hw11]; exact (Ext.refl _).alloc _
          have sh11 : Shows w11 2 (some ⟨w10.heap.size, 0, none⟩) 1 [.int .i64 0, .int .i64 0] := by rw [hw11]; exact shows2 rfl
          have own11 := own_ext own10 x11
          have HEV := Lib.hid hev
          have HO9 := Lib.hid O9
          have H90 := Lib.hid h90
          have HT9 := Lib.hid hT9
          have HGL := Lib.hid hgl
          clear O9 h90 h95 hT9 KG own10 hev gr9 at9 own9 own8 sh8 hw8 hfz9 hcell9 hw10 g0 g1 hgl
          go_wp2_with (at_builtin; go_loud (rw [← hw11]; refine wpList_appB el66 rfl _ _ rfl own11 rfl sh11 rfl (fun u hu => by simp at hu; subst hu; rfl) (le_max (by omega)) (by omega) (Nat.zero_le _) ?_; intro v12 w12 own12 gr12 at12; obtain ⟨B12, c12, rfl, _, _⟩ := own12.form (by omega); have RS := rn_see (lo := w1.heap.size) hk' HO9.out ⟨rfl, rfl⟩ HOK.out H90.out HEV.out x11 own12 gr12 rfl at12 HT9.out (by have := xw10.size; omega); obtain ⟨⟨hfz12, u12, hcell12⟩, va12, T12, M12, hT12⟩ := RS; have HM12 := Lib.hid M12; have HT12 := Lib.hid hT12; clear M12 hT12))
          go_roundw
          case rel => exact ⟨k + 1, va12, T12, by go_num, by omega, by rw [← ms_add HS.out]; exact HM12.out, HT12.out, (Ext.of_grown (xw10.trans x11) gr12 (fun b e => rn2_lo5 HO9.out HT9.out b (by rw [HEV.out]; exact e))).setCell HGL.out _⟩
          case measure => simp [intOf]; omega
    · obtain rfl : k = m.segs.length := by omega
      have HM2 := Lib.hid M
      have HT := Lib.hid hT
      clear M hT
      go_wp2
      go_ret2
      exact ⟨g, va, T, rfl, HX.out.trans xr, HM2.out, fun b t hb => Nat.le_trans HX.out.size (HT.out b t hb)⟩
end Go.Proofs.Ytjgmnbfadnlikaa
