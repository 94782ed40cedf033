import Derived.Test.YtjdabmadpclbaaaBA
set_option linter.unusedVariables false
set_option linter.unusedSimpArgs false
namespace Go.Proofs.Ytjdabmadpclbaaa
open Go.RowKit
/-- n of them, from lo on, take a frame; how many did. -/
def putN (f : Fr) (lo : Nat) : Nat → List BSt → List BSt × Nat
  | 0, ss => (ss, 0)
  | k + 1, ss => ((putN f lo k ss).1.set (lo + k) (((putN f lo k ss).1.getD (lo + k) d0).take f).1, (putN f lo k ss).2 + if (((putN f lo k ss).1.getD (lo + k) d0).take f).2 then 1 else 0)
theorem putN_len (f : Fr) (lo : Nat) (ss : List BSt) : ∀ k, (putN f lo k ss).1.length = ss.length
  | 0 => rfl
  | k + 1 => by rw [putN]; simp [putN_len f lo ss k]
theorem putN_le (f : Fr) (lo : Nat) (ss : List BSt) : ∀ k, (putN f lo k ss).2 ≤ k
  | 0 => Nat.le_refl _
  | k + 1 => by have := putN_le f lo ss k; rw [putN]; dsimp only; split <;> omega
theorem putN_step {f : Fr} {lo k : Nat} {ss : List BSt} {s s' : BSt} {b : Bool} (h1 : (putN f lo k ss).1.getD (lo + k) d0 = s) (h2 : s.take f = (s', b)) : putN f lo (k + 1) ss = ((putN f lo k ss).1.set (lo + k) s', (putN f lo k ss).2 + if b then 1 else 0) := by
  rw [putN, h1, h2]
theorem BxsPost.next {w w' w2 : World} {ty : TypeId} {gs : List Nat} {ss' : List BSt} {F F' : Nat → Prop} (b : Kept F w w') (c : ∀ k, F' k → F k ∨ w.heap.size ≤ k) (q : BxsPost w' ty gs ss' F' w2) : BxsPost w ty gs ss' F w2 := by
  obtain ⟨F2, a2, b2, c2⟩ := q
  refine ⟨F2, a2, b.trans b2 (fun i hi q => (c i q).elim id (fun q => by omega)), fun k hk => ?_⟩
  rcases c2 k hk with q | q
  · exact c k q
  · exact .inr (Nat.le_trans b.size q)
theorem take_c {w : World} {g : Nat} {s s' : BSt} {F : Nat → Prop} {f : Fr} {b : Bool} (h : BxC w 71 g s F) (hf : f.ok) (hs : s.take f = (s', b)) : Calls Try.prog 35 #[.pointer (some ⟨g, 0, none⟩), .agg f.vals.toArray] w fun e w' => e = .returned (.bool b) ∧ BxPost w 71 g s' F w' := by
  have := take_any h f hf
  rw [hs] at this
  exact this
theorem rtake_c {w : World} {g : Nat} {s s' : BSt} {F : Nat → Prop} {f : Fr} {b : Bool} (h : BxC w 53 g s F) (hf : f.ok) (hs : s.take f = (s', b)) : Calls Try.prog 34 #[.pointer (some ⟨g, 0, none⟩), .agg f.vals.toArray] w fun e w' => e = .returned (.bool b) ∧ BxPost w 53 g s' F w' := by
  have := rtake_any h f hf
  rw [hs] at this
  exact this
theorem ptr_cell' {w : World} {gs : List Nat} {bb off n i g : Nat} (sh : Shows w 1 (some ⟨bb, off, none⟩) n (ptrs gs)) (hn : n = gs.length) (hg : gs[i]? = some g) : w.cell? ⟨bb, off + i, none⟩ = some (ptr g) := by
  obtain ⟨b, o, h1, _, h2⟩ := ptr_cell sh hn hg
  injection h1 with h1
  injection h1 with h1 h3
  subst h1 h3
  exact h2
set_option maxRecDepth 100000 in
set_option maxHeartbeats 4000000 in
theorem put_any {w : World} {A : Option Addr} {n c lo : Nat} {gs sub : List Nat} {ss : List BSt} {F : Nat → Prop} {f : Fr} (hf : f.ok) (h : Bxs w 71 gs ss F) (sh : Shows w 1 A n (ptrs sub)) (hn : n = sub.length) (hsub : ∀ k, k < n → sub[k]? = gs[lo + k]?) (hlo : lo + n ≤ ss.length) (hA : ∀ ad, A = some ad → ¬ F ad.block) (hn9 : n ≤ 100) :
    Calls Try.prog 17 #[.agg f.vals.toArray, .slice A n c] w fun e w' => e = .returned (.int .i64 (putN f lo n ss).2) ∧ BxsPost w 71 gs (putN f lo n ss).1 F w' := by
  have HS := Lib.hid hsub
  have HN := Lib.hid hn
  have HA := Lib.hid hA
  have hle := putN_le f lo ss
  have hll := putN_len f lo ss
  have HLE := Lib.hid hle
  have HLL := Lib.hid hll
  clear hsub hn hA hle hll
  obtain ⟨w1, hw1⟩ : ∃ V, V = w.alloc (.cells f.vals.toArray 34) := ⟨_, rfl⟩
  have k2 : w1.heap[w.heap.size]? = some (.cells f.vals.toArray 34 (0, 0)) := by rw [hw1]; exact heap_alloc_new _ _
  have x1 : Ext w w1 := by rw [hw1]; exact (Ext.refl _).alloc _
  have hnF : ¬ F w.heap.size := fun e => by have := h.lt _ e; omega
  have H1 := Lib.hid (h.ext x1)
  clear h
  go_enter Try.func17, Try.ntmps17
  go_upto_region 1 with (fail)
  change Code.wp _ _ _ _ (w.alloc (.cells f.vals.toArray 34))
  rw [← hw1]
  clear hw1
  go_wp2
  go_loopg [10, 5] n (fun gk i v wr => ∃ k : Nat, i = .int .i64 k ∧ k ≤ n ∧ gk = n - k ∧ v = .int .i64 (putN f lo k ss).2 ∧ BxsPost w1 71 gs (putN f lo k ss).1 F wr)
  case atStart => exact ⟨0, rfl, by omega, by omega, rfl, H1.out.same (Ext.refl _)⟩
  case round =>
    obtain ⟨k, rfl, hk, rfl, rfl, hP⟩ := hrel
    by_cases hlt : k < n
    · have hkn : (k : Int) < n := by omega
      obtain ⟨F', hb, hkp, hc⟩ := hP
      obtain ⟨g, s, hg, hs, hgd⟩ := hb.at_ (i := lo + k) (by rw [HLL.out]; omega)
      obtain ⟨Fi, hB, hstep⟩ := hb.step hg hs
      obtain ⟨bb, off, rfl, hb2, hcell⟩ := ptr_cell ((sh.ext x1).kept hkp HA.out) HN.out (by rw [HS.out k hlt]; exact hg)
      obtain ⟨s', tb, hst⟩ : ∃ s' tb, s.take f = (s', tb) := ⟨_, _, rfl⟩
      have hpn := putN_step hgd hst
      have hle := HLE.out k
      have HPN := Lib.hid hpn
      have HST := Lib.hid hst
      have HB := Lib.hid hB
      have HSP := Lib.hid (fun s' w' q => BxsPost.next hkp hc (hstep s' w' q))
      have k22 := hkp.blk k2 hnF
      clear hpn hst hB hstep hb hc hkp hg hs hgd
      generalize putN f lo k ss = q at *
      obtain ⟨q1, q2⟩ := q
      simp only at hle HPN HSP ⊢
      go_upto_if 16 with (first
        | refine wpList_ldrow rfl 34 _ rfl k22 rfl Try.underlying34 rfl size37 ?_
        | (go_at_call 35; (refine (take_c HB.out hf HST.out).mono ?_); rintro e w5 ⟨rfl, P5⟩))
      have P5 := Lib.hid (HSP.out _ _ P5)
      cases tb
      · go_wp2
        go_roundg (n - (k + 1))
        case measure => omega
        case rel => exact ⟨k + 1, by go_num, by omega, rfl, by rw [HPN.out]; rfl, by rw [HPN.out]; exact P5.out⟩
      · go_wp2
        go_roundg (n - (k + 1))
        case measure => omega
        case rel => exact ⟨k + 1, by go_num, by omega, rfl, by rw [HPN.out]; go_num, by rw [HPN.out]; exact P5.out⟩
    · obtain rfl : k = n := by omega
      have HPP := Lib.hid (BxsPost.of x1 hP)
      clear hP
      go_wp2
      go_ret
      exact ⟨rfl, HPP.out⟩
set_option maxRecDepth 100000 in
set_option maxHeartbeats 4000000 in
theorem rput_any {w : World} {A : Option Addr} {n c : Nat} {gs : List Nat} {ss : List BSt} {F : Nat → Prop} {f : Fr} (hf : f.ok) (h : Bxs w 53 gs ss F) (sh : Shows w 1 A n (ptrs gs)) (hn : n = gs.length) (hA : ∀ ad, A = some ad → ¬ F ad.block) (hn9 : n ≤ 100) :
    Calls Try.prog 18 #[.agg f.vals.toArray, .slice A n c] w fun e w' => e = .returned (.int .i64 (putN f 0 n ss).2) ∧ BxsPost w 53 gs (putN f 0 n ss).1 F w' := by
  have hlo : n = ss.length := by rw [hn, h.len]
  have HN := Lib.hid hn
  have HLO := Lib.hid hlo
  have HA := Lib.hid hA
  have hle := putN_le f 0 ss
  have hll := putN_len f 0 ss
  have HLE := Lib.hid hle
  have HLL := Lib.hid hll
  clear hn hA hle hll hlo
  obtain ⟨w1, hw1⟩ : ∃ V, V = w.alloc (.cells f.vals.toArray 34) := ⟨_, rfl⟩
  have k2 : w1.heap[w.heap.size]? = some (.cells f.vals.toArray 34 (0, 0)) := by rw [hw1]; exact heap_alloc_new _ _
  have x1 : Ext w w1 := by rw [hw1]; exact (Ext.refl _).alloc _
  have hnF : ¬ F w.heap.size := fun e => by have := h.lt _ e; omega
  have H1 := Lib.hid (h.ext x1)
  clear h
  go_enter Try.func18, Try.ntmps18
  go_upto_region 1 with (fail)
  change Code.wp _ _ _ _ (w.alloc (.cells f.vals.toArray 34))
  rw [← hw1]
  clear hw1
  go_wp2
  go_loopg [6, 5] n (fun gk i v wr => ∃ k : Nat, i = .int .i64 k ∧ k ≤ n ∧ gk = n - k ∧ v = .int .i64 (putN f 0 k ss).2 ∧ BxsPost w1 53 gs (putN f 0 k ss).1 F wr)
  case atStart => exact ⟨0, rfl, by omega, by omega, rfl, H1.out.same (Ext.refl _)⟩
  case round =>
    obtain ⟨k, rfl, hk, rfl, rfl, hP⟩ := hrel
    by_cases hlt : k < n
    · have hkn : (k : Int) < n := by omega
      obtain ⟨F', hb, hkp, hc⟩ := hP
      obtain ⟨g, s, hg, hs, hgd⟩ := hb.at_ (i := 0 + k) (by rw [HLL.out]; have := HLO.out; omega)
      obtain ⟨Fi, hB, hstep⟩ := hb.step hg hs
      have shk := (sh.ext x1).kept hkp HA.out
      obtain ⟨bb, off, rfl, hb2, hcell⟩ := ptr_cell shk HN.out (by rw [Nat.zero_add] at hg; exact hg)
      obtain ⟨s', tb, hst⟩ : ∃ s' tb, s.take f = (s', tb) := ⟨_, _, rfl⟩
      have hpn := putN_step hgd hst
      have hle := HLE.out k
      have HPN := Lib.hid hpn
      have HG := Lib.hid (by rw [Nat.zero_add] at hg; exact hg : gs[k]? = some g)
      have HST := Lib.hid hst
      have HB := Lib.hid hB
      have HSP := Lib.hid (fun s' w' q => BxsPost.next hkp hc (hstep s' w' q))
      have k22 := hkp.blk k2 hnF
      clear hpn hst hB hstep hb hc hkp hg hs hgd shk
      generalize putN f 0 k ss = q at *
      obtain ⟨q1, q2⟩ := q
      simp only at hle HPN HSP ⊢
      have hk9 : ∀ W X, BxsPost w1 53 gs X F W → W.cell? ⟨bb, off + k, none⟩ = some (ptr g) ∧ W.heap[w.heap.size]? = some (.cells f.vals.toArray 34 (0, 0)) := fun W X q => by
        obtain ⟨F2, b2, kp2, c2⟩ := q
        exact ⟨ptr_cell' ((sh.ext x1).kept kp2 HA.out) HN.out HG.out, kp2.blk k2 hnF⟩
      have HK := Lib.hid hk9
      clear hk9
      go_upto_region 5 with (fail)
      refine wp_region_held_drew (S := fun W => W.cell? ⟨bb, off + k, none⟩ = some (ptr g) ∧ W.heap[w.heap.size]? = some (.cells f.vals.toArray 34 (0, 0))) (by kernel_rfl) (⟨(Below.cell ((Ext.refl wr).drew) (p := ⟨bb, off + k, none⟩) hb2).trans hcell, (((Ext.refl wr).drew).block _ (blk_lt k22)).trans k22⟩) (fun hHeld => ?_)
      obtain ⟨wD1, hwD⟩ : ∃ V, V = World.drew wr := ⟨_, rfl⟩
      rw [← hwD] at hHeld ⊢
      have zz0 : Ext wr wD1 := by rw [hwD]; exact (Ext.refl _).drew
      clear hwD
      refine wpAnyH_take (i := 0) (oi := { dst := some 13, op := Op.move (Operand.tmp 1), type := 27, pos := "ref.go:46", after := #[], guard := none }) (v := ?vv2_5_0) rfl (by kernel_rfl) (by kernel_rfl) (by kernel_rfl) (fun _ _ _ h => h) (Or.inl ⟨by rfl, ?yy2_5_0⟩) hHeld ?_
      case yy2_5_0 => (intro W hx; go_simp; try with_reducible rfl)
      simp only [Act.put, List.setIfInBounds_toArray, List.set_cons_zero, List.set_cons_succ]
      refine wpAnyH_take (i := 1) (oi := { dst := some 14, op := Op.move (Operand.tmp 6), type := 3, pos := "ref.go:46", after := #[], guard := none }) (v := ?vv3_5_1) rfl (by kernel_rfl) (by kernel_rfl) (by kernel_rfl) (fun _ _ _ h => h) (Or.inl ⟨by rfl, ?yy3_5_1⟩) hHeld ?_
      case yy3_5_1 => (intro W hx; go_simp; try with_reducible rfl)
      simp only [Act.put, List.setIfInBounds_toArray, List.set_cons_zero, List.set_cons_succ]
      refine wpAnyH_take (i := 2) (oi := { dst := some 15, op := Op.indexAddr 27 (Operand.tmp 13) (Operand.tmp 14), type := 0, pos := "ref.go:46", after := #[{ on := 0, ground := Ground.data }, { on := 1, ground := Ground.data }], guard := none }) (v := ?vv4_5_2) rfl (by kernel_rfl) (by kernel_rfl) (by kernel_rfl) (fun _ _ _ h => h) (Or.inl ⟨by rfl, ?yy4_5_2⟩) hHeld ?_
      case yy4_5_2 => (intro W hx; go_simp; try with_reducible rfl)
      simp only [Act.put, List.setIfInBounds_toArray, List.set_cons_zero, List.set_cons_succ]
      refine wpAnyH_take (i := 3) (oi := { dst := some 16, op := Op.load 43 (Operand.tmp 15), type := 43, pos := "ref.go:46", after := #[{ on := 2, ground := Ground.data }], guard := none }) (v := ?vv5_5_3) rfl (by kernel_rfl) (by kernel_rfl) (by kernel_rfl) (fun _ _ _ h => h) (Or.inl ⟨by rfl, ?yy5_5_3⟩) hHeld ?_
      case yy5_5_3 => (intro W hx; have q9 := hx.1; go_simp; try with_reducible rfl)
      simp only [Act.put, List.setIfInBounds_toArray, List.set_cons_zero, List.set_cons_succ]
      refine wpAnyH_take (i := 4) (oi := { dst := some 17, op := Op.load 34 (Operand.tmp 2), type := 34, pos := "ref.go:46", after := #[], guard := none }) (v := ?vv6_5_4) rfl (by kernel_rfl) (by kernel_rfl) (by kernel_rfl) (fun _ _ _ h => h) (Or.inl ⟨by rfl, ?yy6_5_4⟩) hHeld ?_
      case yy6_5_4 => (intro W hx; refine ld_op (frAt hx.2) ?_; rfl)
      simp only [Act.put, List.setIfInBounds_toArray, List.set_cons_zero, List.set_cons_succ]
      refine wpAnyH_ready (rs := [5]) (by kernel_rfl) (by simp) (AllReadyH.cons rfl (fun K hK => ?_) AllReadyH.nil)
      go_simp
      go_wp2_with (go_at_call 34; (refine (rtake_c (HB.out.ext zz0) hf HST.out).mono ?_); rintro e w5 ⟨rfl, q5⟩; have P5 := HSP.out _ _ (BxPost.of zz0 q5))
      refine hK.out _ _ (HK.out w5 _ P5) (fun hHeld => ?_)
      clear hK K
      refine wpAnyH_done (by kernel_rfl) ?_ _
      have P5 := Lib.hid P5
      cases tb
      · go_wp2
        go_roundg (n - (k + 1))
        case measure => omega
        case rel => exact ⟨k + 1, by go_num, by omega, rfl, by rw [HPN.out]; rfl, by rw [HPN.out]; exact P5.out⟩
      · go_wp2
        go_roundg (n - (k + 1))
        case measure => omega
        case rel => exact ⟨k + 1, by go_num, by omega, rfl, by rw [HPN.out]; go_num, by rw [HPN.out]; exact P5.out⟩
    · obtain rfl : k = n := by omega
      have HPP := Lib.hid (BxsPost.of x1 hP)
      clear hP
      go_wp2
      go_ret
      exact ⟨rfl, HPP.out⟩
end Go.Proofs.Ytjdabmadpclbaaa
