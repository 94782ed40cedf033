import Derived.Test.YtnbcmlphnllgeaaGP
set_option linter.unusedVariables false
set_option linter.unusedSimpArgs false
namespace Go.Proofs.Ytnbcmlphnllgeaa
open Go.RowKit
section
variable {wo w w' : World} {g fb n : Nat} {F S S1 : Nat → Prop} {d : Bool} {ca ca' : List (List Int)}
theorem GS.take (h : GS wo w g fb n F S d ca) (K : Kept F w w') (G : Gf (fun b => F b ∧ ¬ S1 b) w' w' g [⟨n, false, false, ca'⟩]) : GS wo w' g fb n (fun b => F b ∧ ¬ S1 b) S d ca' :=
  ⟨G, h.fs.kept K h.nf (fun b hb => (h.sf b hb).1), fun hh => h.nf hh.1, h.ns, fun b hb => ⟨fun hh => (h.sf b hb).1 hh.1, Nat.lt_of_lt_of_le (h.sf b hb).2.1 K.size, (h.sf b hb).2.2⟩, fun b hb => h.fw b hb.1, h.fl, h.ex.kept K (fun b hb => h.fw b hb)⟩
end
def nxt (t n : Nat) (bl : List Bv) (k : Nat) : List (List Int) := if k < n then ownsT t bl k else []
/-- the sample that is wanted, in its variable q; its bytes are W's. -/
structure WS (wo w : World) (q fb : Nat) (F S W : Nat → Prop) (wv : Value) (wels : List (Value × List Int)) (want : List (List Int)) : Prop where
  hq : w.heap[q]? = some (.cells #[.int .i64 0, .bool false, wv] 35 (0, 0))
  bl : BL w W wv wels
  is : wels.map (·.2) = want
  wd : ∀ b, W b → ¬ F b ∧ ¬ S b ∧ b ≠ fb ∧ b ≠ q ∧ b < w.heap.size ∧ wo.heap.size ≤ b
theorem gs_mid {wo wq w7 u5 : World} {g fb n q ln : Nat} {F S W : Nat → Prop} {d : Bool} {ca want want5 : List (List Int)} {wv v5 vo : Value} {wels els5 : List (Value × List Int)} {xs : List Value}
    (hG : GS wo wq g fb n F S d ca) (hW : WS wo wq q fb F S W wv wels want) (hqF : ¬ F q) (hqS : ¬ S q) (hqf : q ≠ fb) (hqw : wo.heap.size ≤ q) (hql : q < wq.heap.size)
    (x7 : Ext wq w7) (ow : w7.ownsRow wq.heap.size 5 1 vo ln xs) (K5 : Kept (fun b => W b ∨ b = q) w7 u5) (q5 : u5.heap[q]? = some (.cells #[.int .i64 0, .bool false, v5] 35 (0, 0))) (b5 : BL u5 (fun b => W b ∨ w7.heap.size ≤ b) v5 els5) (is5 : els5.map (·.2) = want5) :
    ∃ F1 W1, GS wo u5 g fb n F1 S d ca ∧ WS wo u5 q fb F1 S W1 v5 els5 want5 ∧ u5.ownsRow wq.heap.size 5 1 vo ln xs ∧ (∀ b, vo.ownBlock = some b → ¬ F1 b ∧ ¬ W1 b ∧ ¬ S b ∧ b ≠ fb ∧ b ≠ q ∧ b < u5.heap.size ∧ wo.heap.size ≤ b) ∧ ¬ F1 q := by
  have KK : Kept (fun b => W b ∨ b = q) wq u5 := (Kept.of_ext x7).trans' K5
  have s7 := x7.size
  have s5 := K5.size
  have sw := hG.ex.size
  have hfl := hG.fbl
  have G5 := hG.wr KK (fun b hb h => by
    rcases h with h | h
    · have := hW.wd b h; exact ⟨this.1, this.2.1, this.2.2.1, this.2.2.2.2.2⟩
    · subst h; exact ⟨hqF, hqS, hqf, hqw⟩) (fun b hb h => by
    rcases h with h | h
    · exact (hW.wd b h).2.1 hb
    · subst h; exact hqS hb) (fun h => by
    rcases h with h | h
    · exact (hW.wd fb h).2.2.1 rfl
    · exact hqf h.symm)
  have low : ∀ b, vo.ownBlock = some b → wq.heap.size ≤ b ∧ b < w7.heap.size := fun b e => ow.lt b e
  refine ⟨_, fun b => W b ∨ (w7.heap.size ≤ b ∧ b < u5.heap.size), G5, ⟨q5, b5.mono (fun b hl h => h.imp id (fun h => ⟨h, hl⟩)), is5, fun b hb => ?_⟩, own_keptF ow K5 (fun b e h => ?_), fun b e => ?_, fun h => hqF h.1⟩
  · rcases hb with hb | hb
    · have := hW.wd b hb
      exact ⟨fun h => this.1 h.1, this.2.1, this.2.2.1, this.2.2.2.1, by omega, this.2.2.2.2.2⟩
    · exact ⟨fun h => h.2 ⟨by omega, hb.2⟩, fun h => by have := (hG.sf b h).2.1; omega, by omega, by omega, hb.2, by omega⟩
  · have := low b e
    rcases h with h | h
    · have := (hW.wd b h).2.2.2.2.1; omega
    · omega
  · have := low b e
    refine ⟨fun h => h.2 ⟨by omega, by omega⟩, fun h => ?_, fun h => by have := (hG.sf b h).2.1; omega, by omega, by omega, by omega, by omega⟩
    rcases h with h | h
    · have := (hW.wd b h).2.2.2.2.1; omega
    · omega
theorem gs_take {wo w : World} {g fb n k t ln : Nat} {F S : Nat → Prop} {d okb : Bool} {bl : List Bv} {A : Option Addr} (h : GS wo w g fb n F S d (ownsT t bl k)) (hk : k < n) (hn : n ≤ 9) (c : Nat) (hr : Rd w A ln (ownT t bl k)) (hl : ln ≤ 100000) (hok : okb = decide (¬ k + 1 < n)) :
    Calls Try.prog 13 #[.pointer (some ⟨g, 0, none⟩), .agg #[.int .u8 4, .int .u8 (k : Int), .slice A ln c]] w fun e w' => ∃ (s : Sm) (els : List (Value × List Int)) (S1 : Nat → Prop),
      e = .returned (.tuple #[.agg s.vals.toArray, .bool okb]) ∧ GS wo w' g fb n (fun b => F b ∧ ¬ S1 b) S d (nxt t n bl (k + 1)) ∧ Kept F w w' ∧ SmIs w' S1 s els (if k + 1 < n then none else some (0, false, ownsT t bl (k + 1))) ∧ ∀ b, S1 b → F b ∧ b < w'.heap.size := by
  have e1 := take_next hk hn (owns_len t bl k) (ownT t bl k)
  rw [← owns_succ] at e1
  refine (take_f h.ga (Ext.refl _) 4 (code := (k : Int)) ⟨by omega, by omega⟩ c hr hl).mono ?_
  rintro e w' ⟨s, els, S1, rfl, h1, h2, h3, h4⟩
  have e2 : (takeG [⟨n, false, false, ownsT t bl k⟩] 4 (k : Int) (ownT t bl k)) = (if k + 1 < n then none else some (0, false, ownsT t bl (k + 1)), [⟨n, false, false, nxt t n bl (k + 1)⟩]) := by
    rw [e1]; unfold nxt; split <;> rfl
  rw [e2] at h2 h3 ⊢
  refine ⟨s, els, S1, ?_, h.take h1.1 h2, h1.1, h3, h4⟩
  rw [hok]
  by_cases hl : k + 1 < n <;> simp [hl]
theorem gs_late {wo u5 w10 w11 w12 : World} {g fb n q ob : Nat} {F1 S W1 S10 : Nat → Prop} {d : Bool} {ca' want5 : List (List Int)} {v5 : Value} {els5 : List (Value × List Int)}
    (hG : GS wo w10 g fb n (fun b => F1 b ∧ ¬ S10 b) S d ca') (hW : WS wo u5 q fb F1 S W1 v5 els5 want5) (hq1 : ¬ F1 q) (K : Kept F1 u5 w10)
    (hob : ¬ F1 ob ∧ ¬ W1 ob ∧ ¬ S ob ∧ ob ≠ fb ∧ ob ≠ q ∧ ob < u5.heap.size ∧ wo.heap.size ≤ ob)
    (x11 : Ext w10 w11) (k12 : Kept (fun b => b = ob) w11 w12) :
    ∃ F3, GS wo w12 g fb n F3 S d ca' ∧ WS wo w12 q fb F3 S W1 v5 els5 want5 ∧ (∀ b, F3 b → F1 b ∧ ¬ S10 b) := by
  have sK := K.size
  have s11 := x11.size
  have s12 := k12.size
  have G3 := (hG.ext x11).wr k12 (fun b _ h => by subst h; exact ⟨fun h => hob.1 h.1, hob.2.2.1, hob.2.2.2.1, hob.2.2.2.2.2.2⟩) (fun b hb h => by subst h; exact hob.2.2.1 hb) (fun h => hob.2.2.2.1 h.symm)
  have hb12 : BL w12 W1 v5 els5 := ((hW.bl.kept K (fun b hb => (hW.wd b hb).1)).ext x11).kept k12 (fun b hb h => by subst h; exact hob.2.1 hb)
  refine ⟨_, G3, ⟨k12.blk (((x11.block _ (by have := blk_lt hW.hq; omega)).trans (K.blk hW.hq hq1))) (fun h => hob.2.2.2.2.1 h.symm), hb12, hW.is, fun b hb => ?_⟩, fun b hb => hb.1⟩
  have := hW.wd b hb
  exact ⟨fun h => this.1 h.1.1, this.2.1, this.2.2.1, this.2.2.2.1, by omega, this.2.2.2.2.2⟩
theorem wrB_head {gb j : Nat} {els : List (Value × List Int)} {x : Value × List Int} (hx : els[j]? = some x) (hb : x.1.ownBlock = some gb) (h : 0 < j → ∀ y, els[0]? = some y → ∃ l, y.2 = 99 :: l) :
    ∀ y, (els.map (wrB gb 99))[0]? = some y → ∃ l, y.2 = 99 :: l := by
  intro y hy
  rw [List.getElem?_map] at hy
  rcases hz : els[0]? with _ | z
  · rw [hz] at hy; cases hy
  · rw [hz] at hy
    injection hy with hy
    subst hy
    unfold wrB
    split
    · exact ⟨_, rfl⟩
    · rename_i hn
      rcases Nat.eq_zero_or_pos j with h0 | h0
      · subst h0
        rw [hz] at hx
        injection hx with hx
        subst hx
        exact absurd hb hn
      · exact h h0 z hz
theorem gs_fin {wo w13 w14 w15 : World} {g fb n q t c : Nat} {A : Option Addr} {F1 F3 S S10 : Nat → Prop} {d : Bool} {els : List (Value × List Int)}
    (hG : GS wo w13 g fb n F3 S d []) (hS3 : ∀ b, F3 b → F1 b ∧ ¬ S10 b) (hS10 : ∀ b, S10 b → F1 b ∧ b < w13.heap.size) (hq1 : ¬ F1 q) (hqS : ¬ S q) (hd : ¬ t = 0 → d = true) (hfb1 : ¬ F1 fb) (hS1 : ∀ b, S b → ¬ F1 b) (hF1w : ∀ b, F1 b → wo.heap.size ≤ b)
    (kp : Kept (fun b => b = fb) w13 w14) (h0 : t = 0 → w14.heap[fb]? = some (.cells #[.int .i64 0, .bool false, .slice A n c] 35 (0, 0))) (h1 : ¬ t = 0 → w14 = w13) (kr : Kept S10 w14 w15) (hB : BL w15 S10 (.slice A n c) els) (hl : els.length = n)
    (hhd : ∀ y, els[0]? = some y → ∃ l, y.2 = 99 :: l) : ∃ F' S', GS wo w15 g fb n F' S' true [] ∧ ¬ F' q ∧ ¬ S' q := by
  have g14 := hG.ga.wr kp (fun b _ h hf => by subst h; exact hG.nf hf)
  have g15 := g14.wr kr (fun b _ h hf => (hS3 b hf.1).2 h)
  have s1 := kp.size
  have s2 := kr.size
  have ex := (hG.ex.kept kp (fun b h => by subst h; exact hG.fl)).kept kr (fun b hb => hF1w b (hS10 b hb).1)
  by_cases ht : t = 0
  · refine ⟨_, S10, ⟨g15, ⟨_, els, kr.blk (h0 ht) (fun h => hfb1 (hS10 fb h).1), hB, fun _ => ⟨hl, hhd⟩⟩, fun h => hG.nf h.1.1, fun h => hfb1 (hS10 _ h).1, fun b hb => ⟨fun h => (hS3 b h.1.1).2 hb, ?_, hF1w b (hS10 b hb).1⟩, fun b hb => hG.fw b hb.1.1, hG.fl, ex⟩, fun h => hq1 (hS3 q h.1.1).1, fun h => hq1 (hS10 q h).1⟩
    have := (hS10 b hb).2
    omega
  · have e := h1 ht
    subst e
    have hd' := hd ht
    subst hd'
    refine ⟨_, S, ⟨g15, hG.fs.kept kr (fun h => hfb1 (hS10 fb h).1) (fun b hb h => hS1 b hb (hS10 b h).1), fun h => hG.nf h.1.1, hG.ns, fun b hb => ⟨fun h => (hG.sf b hb).1 h.1.1, ?_, (hG.sf b hb).2.2⟩, fun b hb => hG.fw b hb.1.1, hG.fl, ex⟩, fun h => hq1 (hS3 q h.1.1).1, hqS⟩
    have := (hG.sf b hb).2.1
    omega
theorem own_byts {t : Nat} (ht : t < 2) {bl : List Bv} {W : World} (hok : ∀ x ∈ bl, x.ok W) (k : Nat) : Byts (ownT t bl k) := by
  intro b hb
  rcases List.mem_cons.1 hb with rfl | hb
  · omega
  · split at hb
    · rename_i h
      rw [List.getD_eq_getElem?_getD, List.getElem?_eq_getElem h] at hb
      exact (hok _ (List.getElem_mem h)).rd.byts b (List.mem_of_mem_take hb)
    · simp at hb
set_option maxRecDepth 100000 in
set_option maxHeartbeats 8000000 in
theorem GatherOwn_law (w : World) (mo : Nat) (A2 : Option Addr) (n2 c2 : Nat) (bl : List Bv) (hmo : mo < 256)
    (h2 : Shows w 1 A2 n2 (bvs bl)) (hn2 : n2 = bl.length) (hok2 : ∀ x ∈ bl, x.ok w) (hnc2 : n2 ≤ c2) (hcm2 : c2 ≤ maxLen) :
    Calls Try.prog 8 #[.int .u8 (mo : Int), .slice A2 n2 c2] w fun e w' => e = .returned (.bool true) ∧ Ext w w' := by
  unfold maxLen at hcm2
  obtain ⟨k0, hk0, hk0T, hk05⟩ : ∃ x : Nat, (mo : Int) % 5 = (x : Int) ∧ (mo : Int).tmod 5 = (x : Int) ∧ x < 5 := ⟨mo % 5, by omega, by rw [Int.tmod_eq_emod_of_nonneg (by omega)]; omega, Nat.mod_lt _ (by omega)⟩
  obtain ⟨n, hn⟩ : ∃ n, n = k0 + 1 := ⟨_, rfl⟩
  have hnI : (k0 : Int) + 1 = (n : Int) := by omega
  have hn1 : 1 ≤ n := by omega
  have hn9 : n ≤ 9 := by omega
  have uk0 := wri k0 (by omega)
  have un := wri n (by omega)
  have HP := Lib.hid (And.intro h2 (And.intro hn2 hok2))
  clear h2 hn2 hok2 hn hk05 hmo
  have hmk : ∀ W : World, (Instr.makeSlice 43 (.int .i64 (n : Int)) (.int .i64 (n : Int))).run Try.prog W = .ok (.slice (some ⟨W.heap.size, 0, none⟩) n n) (W.alloc (.cells (madeCells #[.slice none 0 0] n) 96)) := mk_43 n (by omega)
  go_enter Try.func8, Try.ntmps8
  go_upto_region 3 with (go_at_call 9; (refine (shown_any _).mono ?_); rintro e w1 ⟨rfl, x1⟩)
  obtain ⟨wa, hwa⟩ : ∃ V, V = w1.alloc (.cells (madeCells #[.slice none 0 0] n) 96) := ⟨_, rfl⟩
  have xa : Ext w1 wa := by rw [hwa]; exact (Ext.refl _).alloc _
  have hsa : wa.heap.size = w1.heap.size + 1 := by rw [hwa]; exact Array.size_push _
  obtain ⟨wb, hwb⟩ : ∃ V, V = wa.alloc (.cells (lsN (some ⟨w1.heap.size, 0, none⟩) n).vals.toArray 45) := ⟨_, rfl⟩
  have xb : Ext wa wb := by rw [hwb]; exact (Ext.refl _).alloc _
  have shb : Shows wb 8 (some ⟨w1.heap.size + 1, 0, none⟩) 1 (lss [lsN (some ⟨w1.heap.size, 0, none⟩) n]) := by rw [hwb, ← hsa]; exact ls_new _ _
  have HC := Lib.hid (new_f 1 shb rfl (by omega) (fun x hx => by simp at hx; subst hx; exact ⟨⟨Nat.le_refl _, le_max (n := n) (by omega)⟩, by show n ≤ 100000; omega⟩))
  clear shb hsa
  go_upto_region 4 with (go_at_call 11; go_loud (rw [← hwa, show wa.alloc (.cells #[.int .i64 0, .slice (some ⟨w1.heap.size, 0, none⟩) n n, .bool false, .int .u8 0, .int .u8 0, .int .u8 0, .bool false, .bool false] 45) = wb from hwb.symm]; (refine HC.out.mono ?_)); rintro e w2 ⟨g, rfl, x2, G2⟩)
  clear hmk hwa hwb hk0 hk0T
  obtain ⟨w3, hw3⟩ : ∃ V, V = w2.alloc (.cells #[.int .i64 0, .bool false, .slice none 0 0] 35) := ⟨_, rfl⟩
  have x3 : Ext w2 w3 := by rw [hw3]; exact (Ext.refl _).alloc _
  have hs3 : w3.heap.size = w2.heap.size + 1 := by rw [hw3]; exact Array.size_push _
  have k3 : w3.heap[w2.heap.size]? = some (.cells #[.int .i64 0, .bool false, .slice none 0 0] 35 (0, 0)) := by rw [hw3]; exact heap_alloc_new _ _
  go_upto_region 5 with (fail)
  rw [← hw3]
  obtain ⟨fb, hfb⟩ : ∃ z, z = w2.heap.size := ⟨_, rfl⟩
  rw [← hfb] at k3 ⊢
  have GS3 : ∃ F S d, GS w w3 g fb n F S d [] ∧ (1 ≤ 0 → d = true) := by
    have g3 := G2.re.wr (Kept.of_ext (F := fun _ => False) x3) (fun _ _ h => h.elim)
    have s1 := (x1.trans (xa.trans xb)).size
    have s2 := x2.size
    refine ⟨_, fun _ => False, false, ⟨g3, ⟨_, [], k3, BL.nil _ _, fun h => by cases h⟩, fun hh => hh.2 (by omega), fun h => h, fun b h => h.elim, fun b hb => ?_, by omega, (x1.trans (xa.trans xb)).trans (x2.trans x3)⟩, fun h => by omega⟩
    have := hb.1
    omega
  have HG3 := Lib.hid GS3
  clear GS3 hw3 hs3 k3 hfb G2 x1 x2 x3 xa xb hnI uk0
  go_upto_region 6 with (fail)
  have hT := True.intro
  go_loopw [27] (fun v wr => ∃ (t : Nat) (F S : Nat → Prop) (d : Bool), v = .int .i64 (t : Int) ∧ t ≤ 2 ∧ GS w wr g fb n F S d [] ∧ (1 ≤ t → d = true)) (fun v _ => 2 - (intOf v).toNat)
  case atStart => obtain ⟨F, S, d, h1, h2⟩ := HG3.out; exact ⟨0, F, S, d, rfl, by omega, h1, h2⟩
  case round =>
    obtain ⟨t, F, S, d, rfl, ht, G, hd⟩ := hrel
    obtain ⟨wt, rfl⟩ : ∃ z : World, z = wr := ⟨_, rfl⟩
    have HG := Lib.hid (And.intro G hd)
    clear G hd
    by_cases htl : t < 2
    · have htI : (t : Int) < 2 := by omega
      have ut8 := wr8 (i := t) (by omega)
      obtain ⟨w5, hw5⟩ : ∃ V, V = wt.alloc (.cells zsm.vals.toArray 35) := ⟨_, rfl⟩
      have k5 : w5.heap[wt.heap.size]? = some (.cells zsm.vals.toArray 35 (0, 0)) := by rw [hw5]; exact heap_alloc_new _ _
      have x5 : Ext wt w5 := by rw [hw5]; exact (Ext.refl _).alloc _
      go_upto_region 9 with (refine wpList_stnew rfl 35 _ _ rfl rfl zsm.vals rfl rfl size35 rfl zsm_one ?_)
      rw [← hw5]
      clear hw5
      obtain ⟨q, hq⟩ : ∃ z, z = wt.heap.size := ⟨_, rfl⟩
      rw [← hq] at k5 ⊢
      have hq5 := blk_lt k5
      have I0 : ∃ (F S W : Nat → Prop) (wv : Value) (wels : List (Value × List Int)) (d : Bool), GS w w5 g fb n F S d (nxt t n bl 0) ∧ ((1 ≤ t ∨ 0 = n) → d = true) ∧ (0 < n → WS w w5 q fb F S W wv wels (ownsT t bl 0)) ∧ ¬ F q ∧ ¬ S q ∧ q ≠ fb ∧ w.heap.size ≤ q ∧ q < w5.heap.size := by
        have g5 := HG.out.1.wr (Kept.of_ext (F := fun _ => False) x5) (fun _ _ h => h.elim) (fun _ _ h => h) (fun h => h)
        have e0 : nxt t n bl 0 = [] := by unfold nxt; split <;> rfl
        refine ⟨fun b => F b ∧ ¬ (wt.heap.size ≤ b ∧ b < w5.heap.size), S, fun _ => False, _, [], d, by rw [e0]; exact g5, fun h => HG.out.2 (by omega), fun _ => ⟨k5, BL.nil _ _, rfl, fun b h => h.elim⟩, fun hh => hh.2 (by omega), fun hh => by have := (HG.out.1.sf q hh).2.1; omega, fun e => by have := HG.out.1.fbl; omega, by have := HG.out.1.ex.size; omega, hq5⟩
      have HI0 := Lib.hid I0
      clear I0 k5 hq x5 hq5
      go_upto_region 10 with (fail)
      go_loopw [32] (fun v wr => ∃ (k : Nat) (F S W : Nat → Prop) (wv : Value) (wels : List (Value × List Int)) (d : Bool), v = .int .i64 (k : Int) ∧ k ≤ n ∧ GS w wr g fb n F S d (nxt t n bl k) ∧ ((1 ≤ t ∨ k = n) → d = true) ∧ (k < n → WS w wr q fb F S W wv wels (ownsT t bl k)) ∧ ¬ F q ∧ ¬ S q ∧ q ≠ fb ∧ w.heap.size ≤ q ∧ q < wr.heap.size) (fun v _ => n - (intOf v).toNat)
      case atStart => obtain ⟨F, S, W, wv, wels, d, h⟩ := HI0.out; exact ⟨0, F, S, W, wv, wels, d, rfl, Nat.zero_le _, h⟩
      case round =>
        obtain ⟨k, F, S, W, wv, wels, d, rfl, hk, G, hd, hW, hqF, hqS, hqf, hqw, hql⟩ := hrel
        obtain ⟨wq, rfl⟩ : ∃ z : World, z = wr := ⟨_, rfl⟩
        by_cases hkl : k < n
        · have hkI : (k : Int) < n := by omega
          have uk8 := wr8 (i := k) (by omega)
          have HW := Lib.hid (hW hkl)
          have en : nxt t n bl k = ownsT t bl k := by unfold nxt; rw [if_pos hkl]
          have HBY := Lib.hid (own_byts htl HP.out.2.2 k)
          rw [en] at G
          have HI := Lib.hid (And.intro G (And.intro hd (And.intro hqF (And.intro hqS (And.intro hqf (And.intro hqw hql))))))
          clear G hd hW hqF hqS hqf hqw hql en
          -- own
          obtain ⟨w6, hw6⟩ : ∃ V, V = wq.alloc (.cells #[.int .u8 (t : Int)] 5) := ⟨_, rfl⟩
          have x6 : Ext wq w6 := by rw [hw6]; exact (Ext.refl _).alloc _
          have hs6 : w6.heap.size = wq.heap.size + 1 := by rw [hw6]; exact Array.size_push _
          have o6 : w6.ownsRow wq.heap.size 5 1 (.slice (some ⟨wq.heap.size, 0, none⟩) 1 1) 1 (u8s [(t : Int)]) := by rw [hw6]; exact World.ownsRow_lit wq #[.int .u8 (t : Int)] 1 (Nat.le_refl _) (le_max (by omega)) rfl
          go_upto_if 41 with (fail)
          rw [← hw6]
          clear hw6
          have HO6 := Lib.hid (And.intro o6 (And.intro x6 hs6))
          clear o6 hs6
          go_cut [12] (fun v12 wx => ∃ (Ao : Option Addr) (ln co : Nat), v12 = .slice Ao ln co ∧ ln = (ownT t bl k).length ∧ wx.ownsRow wq.heap.size 5 1 (.slice Ao ln co) ln (u8s (ownT t bl k)) ∧ Ext wq wx)
          case first =>
            by_cases hib : k < n2
            · have hibI : (k : Int) < n2 := by omega
              obtain ⟨z, hz⟩ : ∃ z, bl[k]? = some z := ⟨_, List.getElem?_eq_getElem (by have := HP.out.2.1; omega)⟩
              have hbv : (bvs bl)[k]? = some (.slice z.A z.n z.c) := by have := flat_at bv_len bl k z 0 _ hz rfl; simpa [bvs] using this
              have hzo := HP.out.2.2 z (List.mem_of_getElem? hz)
              obtain ⟨b2, o2, u2, hA2, _, hu2, hc2⟩ := (HP.out.1.ext (HI.out.1.ex.trans x6)).cell (k := k) hib
              rw [hbv] at hu2
              injection hu2 with hu2
              subst hu2 hA2
              obtain ⟨kb, hkb⟩ : ∃ kb, kb = min z.n 6 := ⟨_, rfl⟩
              have hzc := hzo.le
              have hzm := hzo.cm
              unfold maxLen at hzm
              have hmin7 : (if (6 : Int) < z.n then (6 : Int) else z.n) = kb := by split <;> omega
              have hmin8 : (if 6 < z.n then (6 : Int) else (z.n : Int)) = kb := by split <;> omega
              have hkbc : kb ≤ z.c := by omega
              have hkbcI : (kb : Int) ≤ z.c := by omega
              have hkb6 : kb ≤ 6 := by omega
              have eo : ownT t bl k = (t : Int) :: z.bs.take kb := by
                unfold ownT
                rw [if_pos (List.getElem?_eq_some_iff.1 hz).1, List.getD_eq_getElem?_getD, hz, hkb]; rfl
              have HZ := Lib.hid (And.intro hc2 (And.intro (hzo.rd.take (k := kb) (by omega)) (And.intro eo (show kb ≤ z.n by omega))))
              have RB := Lib.hid ((hzo.rd.take (k := kb) (by omega)).ext (HI.out.1.ex.trans x6))
              clear hz hbv hzo hc2 hkb hzc hzm eo
              go_upto_region 14 with (fail)
              refine wp_regionL (Kept (fun b => b = wq.heap.size) w6) (Ext w6) 12 (by kernel_rfl) (Kept.of_ext (Ext.refl _).drew) ((Ext.refl _).drew) (fun hL => ?_)
              have hP := hL.1
              have hE : Ext w6 (World.drew w6) := (Ext.refl _).drew
              obtain ⟨wD1, hwD⟩ : ∃ V, V = World.drew w6 := ⟨_, rfl⟩
              rw [← hwD] at hL hP hE ⊢
              clear hwD
              refine wpAnyL_takeP (i := 0) (oi := { dst := some 42, op := Op.move (Operand.tmp 12), type := 30, pos := "law.go:203", after := #[], guard := none }) (v := ?vv2_14_0) rfl (by kernel_rfl) (by kernel_rfl) (by kernel_rfl) (by kernel_rfl) (fun _ _ _ h => h) (Or.inl ⟨by rfl, ?yy2_14_0⟩) hL (fun hL => ?_)
              case yy2_14_0 => (intro W hx; go_simp; try with_reducible rfl)
              simp only [Act.put, List.setIfInBounds_toArray, List.set_cons_zero, List.set_cons_succ]
              refine wpAnyL_takeP (i := 1) (oi := { dst := some 43, op := Op.move (Operand.tmp 1), type := 33, pos := "law.go:203", after := #[], guard := none }) (v := ?vv3_14_1) rfl (by kernel_rfl) (by kernel_rfl) (by kernel_rfl) (by kernel_rfl) (fun _ _ _ h => h) (Or.inl ⟨by rfl, ?yy3_14_1⟩) hL (fun hL => ?_)
              case yy3_14_1 => (intro W hx; go_simp; try with_reducible rfl)
              simp only [Act.put, List.setIfInBounds_toArray, List.set_cons_zero, List.set_cons_succ]
              refine wpAnyL_takeP (i := 2) (oi := { dst := some 44, op := Op.move (Operand.tmp 11), type := 3, pos := "law.go:203", after := #[], guard := none }) (v := ?vv4_14_2) rfl (by kernel_rfl) (by kernel_rfl) (by kernel_rfl) (by kernel_rfl) (fun _ _ _ h => h) (Or.inl ⟨by rfl, ?yy4_14_2⟩) hL (fun hL => ?_)
              case yy4_14_2 => (intro W hx; go_simp; try with_reducible rfl)
              simp only [Act.put, List.setIfInBounds_toArray, List.set_cons_zero, List.set_cons_succ]
              refine wpAnyL_takeP (i := 3) (oi := { dst := some 45, op := Op.indexAddr 33 (Operand.tmp 43) (Operand.tmp 44), type := 0, pos := "law.go:203", after := #[{ on := 1, ground := Ground.data }, { on := 2, ground := Ground.data }], guard := none }) (v := ?vv5_14_3) rfl (by kernel_rfl) (by kernel_rfl) (by kernel_rfl) (by kernel_rfl) (fun _ _ _ h => h) (Or.inl ⟨by rfl, ?yy5_14_3⟩) hL (fun hL => ?_)
              case yy5_14_3 => (intro W hx; go_simp; try with_reducible rfl)
              simp only [Act.put, List.setIfInBounds_toArray, List.set_cons_zero, List.set_cons_succ]
              refine wpAnyL_takeB (i := 4) [11, 12] (oi := { dst := some 46, op := Op.load 30 (Operand.tmp 45), type := 30, pos := "law.go:203", after := #[{ on := 3, ground := Ground.data }], guard := none }) (v := ?vv6_14_4) rfl (by kernel_rfl) (by kernel_rfl) (by kernel_rfl) (by kernel_rfl) (fun _ _ _ h => h) (by kernel_rfl) (Or.inl ⟨by rfl, ?yy6_14_4⟩) hL (fun hL => ?_)
              case yy6_14_4 => (intro W hx; have q1 := cell_ext hx.2 HZ.out.1; go_simp; try with_reducible rfl)
              simp only [Act.put, List.setIfInBounds_toArray, List.set_cons_zero, List.set_cons_succ]
              refine wpAnyL_takeP (i := 5) (oi := { dst := some 47, op := Op.move (Operand.tmp 1), type := 33, pos := "law.go:203", after := #[], guard := none }) (v := ?vv7_14_5) rfl (by kernel_rfl) (by kernel_rfl) (by kernel_rfl) (by kernel_rfl) (fun _ _ _ h => h) (Or.inl ⟨by rfl, ?yy7_14_5⟩) hL (fun hL => ?_)
              case yy7_14_5 => (intro W hx; go_simp; try with_reducible rfl)
              simp only [Act.put, List.setIfInBounds_toArray, List.set_cons_zero, List.set_cons_succ]
              refine wpAnyL_takeP (i := 6) (oi := { dst := some 48, op := Op.move (Operand.tmp 11), type := 3, pos := "law.go:203", after := #[], guard := none }) (v := ?vv8_14_6) rfl (by kernel_rfl) (by kernel_rfl) (by kernel_rfl) (by kernel_rfl) (fun _ _ _ h => h) (Or.inl ⟨by rfl, ?yy8_14_6⟩) hL (fun hL => ?_)
              case yy8_14_6 => (intro W hx; go_simp; try with_reducible rfl)
              simp only [Act.put, List.setIfInBounds_toArray, List.set_cons_zero, List.set_cons_succ]
              refine wpAnyL_takeP (i := 7) (oi := { dst := some 49, op := Op.indexAddr 33 (Operand.tmp 47) (Operand.tmp 48), type := 0, pos := "law.go:203", after := #[{ on := 5, ground := Ground.data }, { on := 6, ground := Ground.data }], guard := none }) (v := ?vv9_14_7) rfl (by kernel_rfl) (by kernel_rfl) (by kernel_rfl) (by kernel_rfl) (fun _ _ _ h => h) (Or.inl ⟨by rfl, ?yy9_14_7⟩) hL (fun hL => ?_)
              case yy9_14_7 => (intro W hx; go_simp; try with_reducible rfl)
              simp only [Act.put, List.setIfInBounds_toArray, List.set_cons_zero, List.set_cons_succ]
              refine wpAnyL_takeB (i := 8) [9, 10, 11, 12] (oi := { dst := some 50, op := Op.load 30 (Operand.tmp 49), type := 30, pos := "law.go:203", after := #[{ on := 7, ground := Ground.data }], guard := none }) (v := ?vv10_14_8) rfl (by kernel_rfl) (by kernel_rfl) (by kernel_rfl) (by kernel_rfl) (fun _ _ _ h => h) (by kernel_rfl) (Or.inl ⟨by rfl, ?yy10_14_8⟩) hL (fun hL => ?_)
              case yy10_14_8 => (intro W hx; have q1 := cell_ext hx.2 HZ.out.1; go_simp; try with_reducible rfl)
              simp only [Act.put, List.setIfInBounds_toArray, List.set_cons_zero, List.set_cons_succ]
              refine wpAnyL_takeP (i := 9) (oi := { dst := some 51, op := Op.call { callee := Callee.builtin Builtin.len, args := #[Operand.tmp 50], argTypes := #[30] }, type := 3, pos := "law.go:203", after := #[{ on := 8, ground := Ground.data }], guard := none }) (v := ?vv11_14_9) rfl (by kernel_rfl) (by kernel_rfl) (by kernel_rfl) (by kernel_rfl) (fun _ _ _ h => h) (Or.inl ⟨by rfl, ?yy11_14_9⟩) hL (fun hL => ?_)
              case yy11_14_9 => (intro W hx; go_simp; try with_reducible rfl)
              simp only [Act.put, List.setIfInBounds_toArray, List.set_cons_zero, List.set_cons_succ]
              refine wpAnyL_takeP (i := 10) (oi := { dst := some 52, op := Op.call { callee := Callee.builtin Builtin.min, args := #[Operand.tmp 51, Operand.const (Value.int IntKind.i64 6)], argTypes := #[3, 3] }, type := 3, pos := "law.go:203", after := #[{ on := 9, ground := Ground.data }], guard := none }) (v := ?vv12_14_10) rfl (by kernel_rfl) (by kernel_rfl) (by kernel_rfl) (by kernel_rfl) (fun _ _ _ h => h) (Or.inl ⟨by rfl, ?yy12_14_10⟩) hL (fun hL => ?_)
              case yy12_14_10 => (intro W hx; go_simp; try with_reducible rfl)
              simp only [Act.put, List.setIfInBounds_toArray, List.set_cons_zero, List.set_cons_succ]
              refine wpAnyL_takeP (i := 11) (oi := { dst := some 53, op := Op.slice 30 (Operand.tmp 46) none (some (Operand.tmp 52)) none, type := 30, pos := "law.go:203", after := #[{ on := 4, ground := Ground.data }, { on := 10, ground := Ground.data }], guard := none }) (v := ?vv13_14_11) rfl (by kernel_rfl) (by kernel_rfl) (by kernel_rfl) (by kernel_rfl) (fun _ _ _ h => h) (Or.inl ⟨by rfl, ?yy13_14_11⟩) hL (fun hL => ?_)
              case yy13_14_11 => (intro W hx; go_simp; try with_reducible rfl)
              simp only [Act.put, List.setIfInBounds_toArray, List.set_cons_zero, List.set_cons_succ]
              refine wpAnyL_ready (rs := [12]) (by kernel_rfl) (by simp) (AllReadyL.cons rfl (fun K hK => ?_) AllReadyL.nil)
              rw [if_pos (by rfl)]
              refine wp_appB (o := { dst := some 54, op := Op.call { callee := Callee.builtin Builtin.append, args := #[Operand.tmp 42, Operand.tmp 53], argTypes := #[30, 30] }, type := 30, pos := "law.go:203", after := #[{ on := 0, ground := Ground.data }, { on := 11, ground := Ground.data }], guard := none }) el30 _ _ rfl (own_ext HO6.out.1 hE) rfl (RB.out.ext hE).shows rfl (u8s_one _) (le_max (by omega)) (by omega) (by have := hE.size; have := HO6.out.2.2; omega) ?_; intro v7 w7 own7 x7 at7; obtain ⟨A7, c7, rfl, _, _⟩ := own_form own7
              simp only [Act.put, List.setIfInBounds_toArray, List.set_cons_zero, List.set_cons_succ]
              replace hP := hP.trans' (Kept.of_grown x7 (fun b e => by injection e with e; exact e.symm))
              clear hE
              clear hL
              refine hK.out _ _ ⟨hP, fun e => absurd e (by simp)⟩ (fun hL => ?_)
              clear hK K
              refine wpAnyL_takeP (i := 13) (oi := { dst := some 12, op := Op.assign (Operand.tmp 54), type := 30, pos := "law.go:203", after := #[{ on := 12, ground := Ground.data }, { on := 12, ground := Ground.chain }, { on := 0, ground := Ground.phase }, { on := 1, ground := Ground.phase }, { on := 2, ground := Ground.phase }, { on := 3, ground := Ground.phase }, { on := 4, ground := Ground.phase }, { on := 5, ground := Ground.phase }, { on := 6, ground := Ground.phase }, { on := 7, ground := Ground.phase }, { on := 8, ground := Ground.phase }, { on := 9, ground := Ground.phase }, { on := 10, ground := Ground.phase }, { on := 11, ground := Ground.phase }, { on := 12, ground := Ground.phase }], guard := none }) (v := ?vv14_14_13) rfl (by kernel_rfl) (by kernel_rfl) (by kernel_rfl) (by kernel_rfl) (fun _ _ _ h => h) (Or.inl ⟨by rfl, ?yy14_14_13⟩) hL (fun hL => ?_)
              case yy14_14_13 => (intro W hx; go_simp; try with_reducible rfl)
              simp only [Act.put, List.setIfInBounds_toArray, List.set_cons_zero, List.set_cons_succ]
              refine wpAnyL_done (by kernel_rfl) ?_ _
              have HK7 := Lib.hid (And.intro own7 hP)
              clear own7 at7 x7
              go_wp2_with (fail)
              go_meet
              case rel => exact ⟨A7, 1 + kb, c7, rfl, by rw [HZ.out.2.2.1]; simp [HZ.out.2.1.len]; omega, by rw [HZ.out.2.2.1]; exact HK7.out.1, HO6.out.2.1.kept HK7.out.2 (fun b e => Nat.le_of_eq e.symm)⟩
            · have hibI : ¬ (k : Int) < n2 := by omega
              have eo : ownT t bl k = [(t : Int)] := by unfold ownT; rw [if_neg (by have := HP.out.2.1; omega)]
              have HE := Lib.hid eo
              clear eo
              go_wp2_with (fail)
              go_meet
              case rel => exact ⟨_, 1, 1, rfl, by rw [HE.out]; rfl, by rw [HE.out]; exact HO6.out.1, HO6.out.2.1⟩
          case rest =>
            obtain ⟨Ao, ln, co, rfl, hln, ow, x7⟩ := hcut
            obtain ⟨w7, rfl⟩ : ∃ z : World, z = wc := ⟨_, rfl⟩
            have HO7 := Lib.hid (And.intro ow (And.intro x7 hln))
            have hln1 : 0 < ln := by rw [hln]; simp [ownT]
            have hln9 : ln ≤ 7 := by
              rw [hln]
              unfold ownT
              split <;> simp <;> omega
            obtain ⟨Aw, cw, hwv, _, _⟩ := HW.out.bl.form
            subst hwv
            have hwk : wels.length = k := by have := congrArg List.length HW.out.is; simpa [owns_len] using this
            have HWK := Lib.hid hwk
            have k7q := (x7.block _ (blk_lt HW.out.hq)).trans HW.out.hq
            rw [hwk] at k7q
            have HQ7 := Lib.hid k7q
            have hb7 := HW.out.bl.ext x7
            rw [hwk] at hb7
            have r7 := hb7.row
            rw [hwk] at r7
            have HB7 := Lib.hid hb7
            have HWL := Lib.hid (And.intro r7 (show Shows w7 1 Ao ln (u8s (ownT t bl k)) from Shows.of_own ow))
            clear hwk ow x7 hln k7q hb7 r7
            go_upto_region 15 with (fail)
            refine wp_regionL (Kept (fun b => W b ∨ b = q) w7) (Ext w7) 6 (by kernel_rfl) (Kept.of_ext (Ext.refl _).drew) ((Ext.refl _).drew) (fun hL => ?_)
            have hP := hL.1
            have hE : Ext w7 (World.drew w7) := (Ext.refl _).drew
            obtain ⟨wD15, hwD⟩ : ∃ V, V = World.drew w7 := ⟨_, rfl⟩
            rw [← hwD] at hL hP hE ⊢
            clear hwD
            refine wpAnyL_takeP (i := 0) (oi := { dst := some 55, op := Op.fieldAddr 35 (Operand.tmp 10) 2, type := 0, pos := "law.go:205", after := #[], guard := none }) (v := ?vv16_15_0) rfl (by kernel_rfl) (by kernel_rfl) (by kernel_rfl) (by kernel_rfl) (fun _ _ _ h => h) (Or.inl ⟨by rfl, ?yy16_15_0⟩) hL (fun hL => ?_)
            case yy16_15_0 => (intro W hx; go_simp; try with_reducible rfl)
            simp only [Act.put, List.setIfInBounds_toArray, List.set_cons_zero, List.set_cons_succ]
            refine wpAnyL_takeB (i := 1) [6, 8] (oi := { dst := some 56, op := Op.load 33 (Operand.tmp 55), type := 33, pos := "law.go:205", after := #[{ on := 0, ground := Ground.data }], guard := none }) (v := ?vv17_15_1) rfl (by kernel_rfl) (by kernel_rfl) (by kernel_rfl) (by kernel_rfl) (fun _ _ _ h => h) (by kernel_rfl) (Or.inl ⟨by rfl, ?yy17_15_1⟩) hL (fun hL => ?_)
            case yy17_15_1 => (intro W hx; have q1 := blk_cell (i := 2) (v := .slice Aw k cw) ((hx.2.block _ (blk_lt HQ7.out)).trans HQ7.out) rfl; go_simp; try with_reducible rfl)
            simp only [Act.put, List.setIfInBounds_toArray, List.set_cons_zero, List.set_cons_succ]
            refine wpAnyL_takeP (i := 3) (oi := { dst := some 58, op := Op.move (Operand.tmp 12), type := 30, pos := "law.go:205", after := #[], guard := none }) (v := ?vv18_15_3) rfl (by kernel_rfl) (by kernel_rfl) (by kernel_rfl) (by kernel_rfl) (fun _ _ _ h => h) (Or.inl ⟨by rfl, ?yy18_15_3⟩) hL (fun hL => ?_)
            case yy18_15_3 => (intro W hx; go_simp; try with_reducible rfl)
            simp only [Act.put, List.setIfInBounds_toArray, List.set_cons_zero, List.set_cons_succ]
            refine wpAnyL_ready (rs := [2]) (by kernel_rfl) (by simp) (AllReadyL.cons rfl (fun K hK => ?_) AllReadyL.nil)
            go_simp
            obtain ⟨u1, hw⟩ : ∃ V, V = World.alloc wD15 (.cells #[] 5) := ⟨_, rfl⟩
            rw [← hw]
            have xb : Ext wD15 u1 := by rw [hw]; exact (Ext.refl _).alloc _
            have kb : (World.heap u1)[(World.heap wD15).size]? = some (.cells #[] 5) := by rw [hw]; exact heap_alloc_new _ _
            have own1 : World.ownsRow u1 w7.heap.size 5 1 (.slice (some ⟨(World.heap wD15).size, 0, none⟩) 0 0) 0 [] := (by rw [hw]; exact World.ownsRow_made wD15 #[] 0 hE.size (by simp) rfl)
            clear hw
            replace hE := hE.trans xb
            replace hP := hP.then xb
            clear hL
            refine hK.out _ _ ⟨hP, fun e => hE⟩ (fun hL => ?_)
            clear hK K
            refine wpAnyL_ready (rs := [4]) (by kernel_rfl) (by simp) (AllReadyL.cons rfl (fun K hK => ?_) AllReadyL.nil)
            rw [if_pos (by rfl)]
            refine wp_appB (o := { dst := some 59, op := Op.call { callee := Callee.builtin Builtin.append, args := #[Operand.tmp 57, Operand.tmp 58], argTypes := #[30, 30] }, type := 30, pos := "law.go:205", after := #[{ on := 2, ground := Ground.data }, { on := 3, ground := Ground.data }], guard := none }) el30 _ _ rfl own1 rfl (HWL.out.2.ext hE) rfl (u8s_one _) (le_max (by omega)) (by omega) hE.size ?_; intro v4 u2 own4 x4 at4; simp only [List.nil_append, Nat.zero_add] at own4; obtain ⟨A4, c4, rfl, _, _⟩ := own_form own4
            simp only [Act.put, List.setIfInBounds_toArray, List.set_cons_zero, List.set_cons_succ]
            replace hE := Ext.of_grown hE x4 (fun k e => (own1.lt k e).1)
            replace hP := Kept.of_ext (F := (fun b => W b ∨ b = q)) hE
            clear hL
            refine hK.out _ _ ⟨hP, fun e => hE⟩ (fun hL => ?_)
            clear hK K
            refine wpAnyL_ready (rs := [5]) (by kernel_rfl) (by simp) (AllReadyL.cons rfl (fun K hK => ?_) AllReadyL.nil)
            go_simp
            obtain ⟨u3, hw⟩ : ∃ V, V = World.alloc u2 (.cells #[.slice A4 ln c4] 30) := ⟨_, rfl⟩
            rw [← hw]
            have xb : Ext u2 u3 := by rw [hw]; exact (Ext.refl _).alloc _
            have kb : (World.heap u3)[(World.heap u2).size]? = some (.cells #[.slice A4 ln c4] 30) := by rw [hw]; exact heap_alloc_new _ _
            have sh6 : Shows u3 1 (some ⟨(World.heap u2).size, 0, none⟩) 1 [.slice A4 ln c4] := (by rw [hw]; exact Shows.new1 _ _ _); have ow6 := own_ext own4 xb; have hE6 := hE.trans xb; have own6 := own_ext HWL.out.1 hE6
            clear hw
            replace hE := hE.trans xb
            replace hP := hP.then xb
            clear hL
            refine hK.out _ _ ⟨hP, fun e => hE⟩ (fun hL => ?_)
            clear hK K
            refine wpAnyL_ready (rs := [6]) (by kernel_rfl) (by simp) (AllReadyL.cons rfl (fun K hK => ?_) AllReadyL.nil)
            rw [if_pos (by rfl)]
            refine wp_appB (o := { dst := some 61, op := Op.call { callee := Callee.builtin Builtin.append, args := #[Operand.tmp 56, Operand.tmp 60], argTypes := #[33, 33] }, type := 33, pos := "law.go:205", after := #[{ on := 1, ground := Ground.data }, { on := 5, ground := Ground.data }, { on := 4, ground := Ground.chain }], guard := none }) el33 _ _ rfl own6 rfl sh6 rfl (by intro u hu; simp at hu; subst hu; rfl) (le_max (by omega)) (by omega) (Nat.zero_le _) ?_; intro v7 u4 own7 x6 at7; obtain ⟨B7, c7, rfl, _, _⟩ := own7.form (by omega)
            simp only [Act.put, List.setIfInBounds_toArray, List.set_cons_zero, List.set_cons_succ]
            replace hP := hP.trans' (Kept.of_grown x6 (fun b e => .inl (HB7.out.rF b e)))
            have k37 : Kept W w7 u4 := (Kept.of_ext hE6).trans' (Kept.of_grown x6 (fun b e => HB7.out.rF b e)); have q4 := k37.blk HQ7.out (fun h => (HW.out.wd q h).2.2.2.1 rfl); have HBL := Lib.hid (HB7.out.app hE6 (by rw [← HO7.out.2.2]; exact ow6) HBY.out (Nat.le_refl _) (by rw [HWK.out]; exact own7) x6 at7); have q4c := blk_cell (i := 2) (v := .slice Aw k cw) q4 rfl; have q4f := blk_free (i := 2) q4
            clear hE
            clear hL
            refine hK.out _ _ ⟨hP, fun e => absurd e (by simp)⟩ (fun hL => ?_)
            clear hK K
            refine wpAnyL_takeP (i := 7) (oi := { dst := some 62, op := Op.fieldAddr 35 (Operand.tmp 10) 2, type := 0, pos := "law.go:205", after := #[{ on := 0, ground := Ground.phase }, { on := 1, ground := Ground.phase }, { on := 2, ground := Ground.phase }, { on := 3, ground := Ground.phase }, { on := 4, ground := Ground.phase }, { on := 5, ground := Ground.phase }, { on := 6, ground := Ground.phase }], guard := none }) (v := ?vv19_15_7) rfl (by kernel_rfl) (by kernel_rfl) (by kernel_rfl) (by kernel_rfl) (fun _ _ _ h => h) (Or.inl ⟨by rfl, ?yy19_15_7⟩) hL (fun hL => ?_)
            case yy19_15_7 => (intro W hx; go_simp; try with_reducible rfl)
            simp only [Act.put, List.setIfInBounds_toArray, List.set_cons_zero, List.set_cons_succ]
            refine wpAnyL_ready (rs := [8]) (by kernel_rfl) (by simp) (AllReadyL.cons rfl (fun K hK => ?_) AllReadyL.nil)
            rw [if_pos (by rfl)]
            refine wp_stset (o := { dst := none, op := Op.store 33 (Operand.tmp 62) (Operand.tmp 61), type := 0, pos := "law.go:205", after := #[{ on := 7, ground := Ground.data }, { on := 6, ground := Ground.data }, { on := 6, ground := Ground.chain }, { on := 0, ground := Ground.phase }, { on := 1, ground := Ground.phase }, { on := 2, ground := Ground.phase }, { on := 3, ground := Ground.phase }, { on := 4, ground := Ground.phase }, { on := 5, ground := Ground.phase }, { on := 6, ground := Ground.phase }], guard := none }) (v := .slice (some ⟨B7, 0, none⟩) (k + 1) c7) 33 _ _ rfl q4c q4f rfl rfl size33 rfl (fun c e => by cases e) ?_; obtain ⟨u5, hu5, x8⟩ : ∃ V, V = World.setCell u4 ⟨q, 2, none⟩ (.slice (some ⟨B7, 0, none⟩) (k + 1) c7) ∧ u4.grownBy V (some q) := ⟨_, rfl, set_grown _ _ _ _⟩; rw [← hu5]
            simp only [Act.put]
            replace hP := hP.trans' (Kept.of_grown x8 (fun b e => by injection e with e; exact .inr e.symm))
            clear hL
            refine hK.out _ _ ⟨hP, fun e => absurd e (by simp)⟩ (fun hL => ?_)
            clear hK K
            refine wpAnyL_done (by kernel_rfl) ?_ _
            have q5 : u5.heap[q]? = some (.cells #[.int .i64 0, .bool false, .slice (some ⟨B7, 0, none⟩) (k + 1) c7] 35 (0, 0)) := by rw [hu5]; exact blk_set q4
            have kq : Kept (fun b => b = q) u4 u5 := by rw [hu5]; exact Kept.of_set _ rfl
            have b4 := HBL.out.kept kq (fun b hb e => by have := HI.out.2.2.2.2.2.2; have := HO7.out.2.1.size; exact hb.elim (fun h => (HW.out.wd b h).2.2.2.1 e) (fun h => by omega))
            have H5 := Lib.hid (And.intro q5 (And.intro b4 hP))
            clear hu5 q5 kq b4 q4 q4c q4f own7 at7 sh6 ow6 own6 own4 at4 k37
            obtain ⟨F1, W1, G5, W5, ow5, hown, hq1⟩ := gs_mid HI.out.1 HW.out HI.out.2.2.1 HI.out.2.2.2.1 HI.out.2.2.2.2.1 HI.out.2.2.2.2.2.1 HI.out.2.2.2.2.2.2 HO7.out.2.1 HO7.out.1 H5.out.2.2 H5.out.1 H5.out.2.1 (show _ = ownsT t bl (k + 1) by rw [List.map_append, HW.out.is, owns_succ]; rfl)
            have rd5 : Rd u5 Ao ln (ownT t bl k) := by
              have h := ow5
              rw [HO7.out.2.2] at h
              obtain ⟨_, _, e5, _, _, rd5⟩ := own_rd h HBY.out
              injection e5 with e5 e6 _
              rw [e5, HO7.out.2.2]
              exact rd5
            have HG5 := Lib.hid (And.intro G5 (And.intro W5 (And.intro ow5 (And.intro hown (And.intro hq1 rd5)))))
            clear G5 W5 ow5 hown hq1 rd5
            obtain ⟨okb, hokb⟩ : ∃ b, b = decide (¬ k + 1 < n) := ⟨_, rfl⟩
            have HOK := Lib.hid hokb
            clear hokb
            have HC5 := Lib.hid (gs_take HG5.out.1 hkl hn9 co HG5.out.2.2.2.2.2 (by omega) HOK.out)
            go_upto_region 17 with (first
              | (go_at_call 13; go_loud (with_reducible refine (HC5.out).mono ?_); rintro e w10 ⟨s10, els10, S10, rfl, G10, K10, hs10, hS10⟩)
              | refine wpList_stnew rfl 35 _ _ rfl rfl s10.vals rfl rfl size35 rfl (sm_one hs10) ?_)
            obtain ⟨w11, hw11⟩ : ∃ V, V = w10.alloc (.cells s10.vals.toArray 35) := ⟨_, rfl⟩
            have x11 : Ext w10 w11 := by rw [hw11]; exact (Ext.refl _).alloc _
            have k11 : w11.heap[w10.heap.size]? = some (.cells s10.vals.toArray 35 (0, 0)) := by rw [hw11]; exact heap_alloc_new _ _
            rw [← hw11]
            have ow11 := own_ext (own_keptF HG5.out.2.2.1 K10 (fun b e => (HG5.out.2.2.2.1 b e).1)) x11
            obtain ⟨ob, co', e1, _, _, f1, q1, _⟩ := own_set ow11 (i := 0) (by omega) (.int .u8 77)
            have hob := HG5.out.2.2.2.1 ob (by rw [e1]; rfl)
            injection e1 with e1 _ e2
            subst e1 e2
            have q1' : w11.cell? ⟨ob, 0, none⟩ = some (.int .u8 (t : Int)) := q1
            have hln0I : (0 : Int) < ln := by omega
            have hlco : ln ≤ co := by obtain ⟨_, _, e', h5, _, _⟩ := own_form ow11; injection e' with _ _ e3; omega
            obtain ⟨w12, hw12⟩ : ∃ V, V = w11.setCell ⟨ob, 0, none⟩ (.int .u8 77) := ⟨_, rfl⟩
            have k12 : Kept (fun b => b = ob) w11 w12 := by rw [hw12]; exact Kept.of_set _ rfl
            have HL := Lib.hid (gs_late G10 HG5.out.2.1 HG5.out.2.2.2.2.1 K10 hob x11 k12)
            have k12s := k12.blk k11 (fun h => by have := K10.size; have := hob.2.2.2.2.2.1; omega)
            have HK10 := Lib.hid (And.intro K10 (And.intro hS10 (And.intro hs10 (And.intro x11 (And.intro k12 hob)))))
            have HKS := Lib.hid k12s
            clear G10 K10 hs10 hS10 x11 k11 ow11 q1 k12 k12s hw11 hob
            go_upto_region 18 with (fail)
            rw [← hw12]
            clear hw12 q1' f1
            obtain ⟨F3, G12, W12, hF3⟩ := HL.out
            have HG12 := Lib.hid (And.intro G12 (And.intro W12 hF3))
            clear G12 W12 hF3
            by_cases hlast : k + 1 < n
            · obtain ⟨nm, hnm⟩ : ∃ nm, n = nm + 1 := ⟨n - 1, by omega⟩
              have hnmI : (n : Int) - 1 = (nm : Int) := by omega
              have unm := wri nm (by omega)
              have hkne : ¬ (k : Int) = (nm : Int) := by omega
              have hkneb : ((k : Int) == (nm : Int)) = false := by simp; omega
              have hokb : okb = false := by rw [HOK.out, decide_eq_false (fun h => h hlast)]
              subst hokb
              clear hnm
              go_wp2_with (fail)
              go_roundw
              case rel => exact ⟨k + 1, F3, S, W1, _, _, d, by go_num, by omega, HG12.out.1, fun h => HI.out.2.1 (h.imp id (fun h => by omega)), fun _ => HG12.out.2.1, fun h => HG5.out.2.2.2.2.1 (HG12.out.2.2 q h).1, HI.out.2.2.2.1, HI.out.2.2.2.2.1, HI.out.2.2.2.2.2.1, blk_lt HG12.out.2.1.hq⟩
              case measure => simp [intOf]; omega
            · have hnk : n = k + 1 := by omega
              have hnkI : (n : Int) - 1 = (k : Int) := by omega
              have hokb : okb = true := by rw [HOK.out, decide_eq_true hlast]
              subst hokb
              have hs := HK10.out.2.2.1
              rw [if_neg hlast] at hs
              obtain ⟨A10, c10, hv10, hB10, he10, hl10⟩ := sm_vals hs
              rw [owns_len, ← hnk] at hl10
              have ks0 := HKS.out
              rw [hv10, hl10] at ks0
              have ks : w12.heap[w10.heap.size]? = some (.cells #[.int .i64 0, .bool false, .slice A10 n c10] 35 (0, 0)) := ks0
              rw [hl10] at hB10
              have hb12 : BL w12 S10 (.slice A10 n c10) els10 := (hB10.ext HK10.out.2.2.2.1).kept HK10.out.2.2.2.2.1 (fun b hb h => by subst h; exact HK10.out.2.2.2.2.2.1 (HK10.out.2.1 b hb).1)
              have hsbf : w10.heap.size ≠ fb := by have := HG5.out.1.fbl; have := HK10.out.1.size; omega
              have HSAME := Lib.hid (show Calls Try.prog 15 #[.agg #[.int .i64 0, .bool false, .slice A10 n c10], .agg #[.int .i64 0, .bool false, .slice (some ⟨B7, 0, none⟩) (k + 1) c7]] w12 fun e w' => e = .returned (.bool true) ∧ Ext w12 w' from
                same_true (i := 0) (lo := false) c10 c7 hb12 HG12.out.2.1.bl hl10.symm (by rw [List.length_append, HWK.out]; rfl) (by omega) (by rw [he10, HG12.out.2.1.is]))
              have hne10 : ∀ y ∈ els10, y.2 ≠ [] := fun y hy => ownsT_ne (t := t) (bl := bl) (k := k + 1) y.2 (by rw [← he10]; exact List.mem_map.2 ⟨y, hy, rfl⟩)
              have kq := HG12.out.2.1.hq
              have H12 := Lib.hid (And.intro hb12 (And.intro hl10 (And.intro hne10 hsbf)))
              have HKK := Lib.hid hnk
              clear hs hv10 ks0 hB10 he10 hl10 hb12 hne10 hsbf hnk
              go_upto_region 23 with (first
                | (go_at_call 15; go_loud (with_reducible refine (HSAME.out).mono ?_); rintro e w13 ⟨rfl, x13⟩)
                | refine wpList_ldrow rfl 35 (.tmp 13) rfl ks rfl Try.underlying35 rfl (by kernel_rfl) ?_
                | refine wpList_ldrow rfl 35 (.tmp 10) rfl kq rfl Try.underlying35 rfl (by kernel_rfl) ?_)
              have ks13 := (x13.block _ (blk_lt ks)).trans ks
              have HX13 := Lib.hid x13
              clear ks kq x13 hnkI
              go_upto_if 87 with (fail)
              go_cut [] (fun wx => Kept (fun b => b = fb) w13 wx ∧ (t = 0 → wx.heap[fb]? = some (.cells #[.int .i64 0, .bool false, .slice A10 n c10] 35 (0, 0))) ∧ (¬ t = 0 → wx = w13))
              case first =>
                by_cases h0 : t = 0
                · have hb : ((t : Int) == 0) = true := by simp [h0]
                  have H0 := Lib.hid h0
                  clear h0
                  obtain ⟨fv, fels, kf0, _, _⟩ := (HG12.out.1.ext HX13.out).fs
                  have kf := kf0
                  clear kf0
                  have ONE := Lib.hid (all_oneCell_toArray (show ∀ u ∈ [Value.int .i64 0, .bool false, .slice A10 n c10], u.oneCell' = true from by intro u hu; simp at hu; rcases hu with rfl | rfl | rfl <;> rfl))
                  go_wp2_with (first
                    | (refine wpList_strow rfl 35 (.tmp 8) (.tmp 88) rfl kf rfl rfl (by kernel_rfl) rfl ONE.out ?_; intro w14 k14 x14)
                    | refine wpList_ldrow rfl 35 (.tmp 13) rfl ks13 rfl Try.underlying35 rfl (by kernel_rfl) ?_)
                  go_meet
                  case rel => exact ⟨.of_grown x14 (fun b e => by injection e with e; exact e.symm), fun _ => k14.out, fun h => absurd H0.out h⟩
                · have hb : ((t : Int) == 0) = false := by simp [h0]
                  have H0 := Lib.hid h0
                  clear h0
                  go_wp2_with (fail)
                  go_meet
                  case rel => exact ⟨Kept.refl _ _, fun h => absurd h H0.out, fun _ => rfl⟩
              case rest =>
                obtain ⟨kp14, h0, h1⟩ := hcut
                obtain ⟨w14, rfl⟩ : ∃ z : World, z = wc := ⟨_, rfl⟩
                have q2 := blk_cell (i := 2) (v := .slice A10 n c10) (kp14.blk ks13 H12.out.2.2.2) rfl
                have HB14 := Lib.hid ((H12.out.1.ext HX13.out).kept kp14 (fun b hb h => by subst h; exact HG5.out.1.nf (HK10.out.2.1 b hb).1))
                have H14 := Lib.hid (And.intro kp14 (And.intro h0 h1))
                clear kp14 h0 h1 ks13
                go_upto_region 26 with (fail)
                clear q2
                go_loopw [92] (fun v wr => ∃ (j : Nat) (els : List (Value × List Int)), v = .int .i64 (j : Int) ∧ j ≤ n ∧ BL wr S10 (.slice A10 n c10) els ∧ els.length = n ∧ (∀ y ∈ els, y.2 ≠ []) ∧ (0 < j → ∀ y, els[0]? = some y → ∃ l, y.2 = 99 :: l) ∧ Kept S10 w14 wr) (fun v _ => n - (intOf v).toNat)
                case atStart => exact ⟨0, els10, rfl, Nat.zero_le _, HB14.out, H12.out.2.1, H12.out.2.2.1, fun h => by omega, Kept.refl _ _⟩
                case round =>
                  obtain ⟨j, els, rfl, hj, hB, hl, hne, hhd, kr⟩ := hrel
                  obtain ⟨wo, rfl⟩ : ∃ z : World, z = wr := ⟨_, rfl⟩
                  by_cases hjl : j < n
                  · have hjI : (j : Int) < n := by omega
                    obtain ⟨x, hx⟩ : ∃ x, els[j]? = some x := ⟨_, List.getElem?_eq_getElem (by omega)⟩
                    obtain ⟨gb, c, c0, ev, hp, hlc, hFg, hcell, hfz, hlt, hB'⟩ := hB.wr hne hx (u := 99) (by decide)
                    obtain ⟨ga, ca, ea, pa, _⟩ := hB.at_ hx
                    have ea' : A10 = some ⟨ga, 0, none⟩ := by injection ea
                    clear ea
                    subst ea'
                    rw [ev] at pa
                    have hob : x.1.ownBlock = some gb := by rw [ev]; rfl
                    obtain ⟨xl, hxl⟩ : ∃ xl, xl = x.2.length := ⟨_, rfl⟩
                    rw [← hxl] at pa hp hlc
                    have hpI : (0 : Int) < xl := by omega
                    have HJ := Lib.hid (And.intro hB' (And.intro hl (And.intro (show ∀ y ∈ els.map (wrB gb 99), y.2 ≠ [] from fun y hy => by obtain ⟨z, hz, rfl⟩ := List.mem_map.1 hy; exact wrB_ne (hne z hz)) (And.intro (wrB_head hx hob hhd) (And.intro kr hFg)))))
                    clear hB hl hne hhd kr hx ev hFg hlt hB' hob hxl
                    go_upto_region 29 with (fail)
                    go_wp2
                    go_roundw
                    case rel => exact ⟨j + 1, els.map (wrB gb 99), by go_num, by omega, HJ.out.1, by rw [List.length_map]; exact HJ.out.2.1, HJ.out.2.2.1, fun _ => HJ.out.2.2.2.1, HJ.out.2.2.2.2.1.trans' (Kept.of_set _ HJ.out.2.2.2.2.2)⟩
                    case measure => simp [intOf]; omega
                  · have hjn : j = n := by omega
                    have hjp : 0 < j := by omega
                    have e0 : nxt t n bl (k + 1) = [] := by unfold nxt; rw [if_neg hlast]
                    have g13 := HG12.out.1.ext HX13.out
                    rw [e0] at g13
                    have HF := Lib.hid (gs_fin g13 HG12.out.2.2 (fun b hb => ⟨(HK10.out.2.1 b hb).1, by have := (HK10.out.2.1 b hb).2; have := HK10.out.2.2.2.1.size; have := HK10.out.2.2.2.2.1.size; have := HX13.out.size; omega⟩) HG5.out.2.2.2.2.1 HI.out.2.2.2.1 (fun h => HI.out.2.1 (.inl (by omega))) HG5.out.1.nf (fun b hb => (HG5.out.1.sf b hb).1) HG5.out.1.fw H14.out.1 H14.out.2.1 H14.out.2.2 kr hB hl (hhd hjp))
                    have HE0 := Lib.hid e0
                    have HSZ := Lib.hid (show q < wo.heap.size from by have := blk_lt HG12.out.2.1.hq; have := HX13.out.size; have := H14.out.1.size; have := kr.size; omega)
                    subst hjn
                    clear hB hl hne hhd kr g13 e0
                    go_wp2
                    go_roundw
                    case rel =>
                      obtain ⟨F', S', h1, h2, h3⟩ := HF.out
                      exact ⟨k + 1, F', S', W1, .bool true, [], true, by go_num, by omega, by rw [HE0.out]; exact h1, fun _ => rfl, fun h => absurd h hlast, h2, h3, HI.out.2.2.2.2.1, HI.out.2.2.2.2.2.1, HSZ.out⟩
                    case measure => simp [intOf]; omega
        · obtain rfl : k = n := by omega
          have hd1 := hd (.inr rfl)
          subst hd1
          have en : nxt t k bl k = [] := by unfold nxt; rw [if_neg (by omega)]
          rw [en] at G
          have HI := Lib.hid G
          clear G hd hW hqF hqS hqf hqw hql en
          go_wp2
          go_roundw
          case rel => exact ⟨t + 1, F, S, true, by go_num, by omega, HI.out, fun _ => rfl⟩
          case measure => simp [intOf]; omega
    · obtain rfl : t = 2 := by omega
      have hd := HG.out.2 (by omega)
      subst hd
      have G := HG.out.1
      obtain ⟨fv, els, kf, B, hfs⟩ := G.fs
      obtain ⟨hl, hhd⟩ := hfs rfl
      obtain ⟨y, hy⟩ : ∃ y, els[0]? = some y := ⟨_, List.getElem?_eq_getElem (by omega)⟩
      obtain ⟨l, hyl⟩ := hhd y hy
      obtain ⟨ga, ca, ea, pa, A', c', ey, hyc, _, _⟩ := B.at_ hy
      obtain ⟨gb, cb, u, eb, _, _, hu, hcb⟩ := own_at (B.el y (List.mem_of_getElem? hy)).1 (k := 0) (by simp [hyl])
      rw [hyl] at hu
      have hu' : u = .int .u8 99 := by injection hu with hu; exact hu.symm
      subst hu'
      rw [eb] at pa
      have hyp : 0 < y.2.length := by simp [hyl]
      have hycb : y.2.length ≤ cb := by rw [eb] at ey; injection ey with _ _ e3 <;> omega
      obtain ⟨yl, hyl2⟩ : ∃ yl, yl = y.2.length := ⟨_, rfl⟩
      rw [← hyl2] at pa hyp hycb
      rw [ea, hl] at kf
      have q2 := blk_cell (i := 2) (v := .slice (some ⟨ga, 0, none⟩) n ca) kf rfl
      have hypI : (0 : Int) < yl := by omega
      have hn0I : (0 : Int) < n := by omega
      have hE := Lib.hid G.ex
      clear G kf B hfs hl hhd hy hyl ea ey eb hu hyl2 hyc
      go_wp2
      go_ret
      exact ⟨by simp, hE.out⟩
theorem GatherOwn_all (w : World) (a0 : Int) (A1 : Option Addr) (n1 c1 : Nat) (bl : List Bv) (l0 : 0 ≤ a0) (h0 : a0 < 256)
    (h1 : Shows w 1 A1 n1 (bvs bl)) (hn1 : n1 = bl.length) (hok1 : ∀ x ∈ bl, x.ok w) (hnc1 : n1 ≤ c1) (hcm1 : c1 ≤ maxLen) :
    Calls Try.prog 8 #[.int .u8 a0, .slice A1 n1 c1] w fun e w' => e = .returned (.bool true) ∧ Ext w w' := by
  obtain ⟨b0, rfl⟩ := Int.eq_ofNat_of_zero_le l0
  exact GatherOwn_law w b0 A1 n1 c1 bl (by omega) h1 hn1 hok1 hnc1 hcm1
end Go.Proofs.Ytnbcmlphnllgeaa
