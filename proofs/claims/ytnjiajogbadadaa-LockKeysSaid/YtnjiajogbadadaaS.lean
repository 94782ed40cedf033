import Derived.Test.YtnjiajogbadadaaR
import Derived.Maps.OwnOps
import Derived.Maps.Views
set_option linter.unusedVariables false
namespace Go.Proofs.Ytnjiajogbadadaa
open Go.RowKit Go.Maps
set_option maxHeartbeats 1000000 in
theorem key_blk (A : Option Addr) (n c : Nat) (bs : List Int) (res : Int) (w : World) (hr : Rd w A n bs) (hn : n ≤ 1000) (r0 : 0 ≤ res) (r1 : res < 256) :
    Calls Try.prog 20 #[.slice A n c, .int .u8 res] w fun e w' => e = .returned (.slice (some ⟨w.heap.size, 0, none⟩) n n) ∧ Ext w w' ∧ w'.heap[w.heap.size]? = some (.cells (u8s (keyB res bs)).toArray 5 (0, 0)) := by
  have hl := hr.len
  have HL := Lib.hid hl
  clear hl
  have hn0 : (0 : Int) ≤ n := by omega
  go_enter Try.func20, Try.ntmps20
  go_wp2_with (at_make; refine wpList_make1 el29 rfl rfl _ _ rfl rfl rfl hn0 (by omega) (by omega) ?_; intro w2 hg2 x2 hs2)
  go_loopw [6, 12] (fun _ i wr => ∃ k : Nat, k ≤ n ∧ i = .int .i64 k ∧ Hid (wr.heap[w.heap.size]? = some (.cells (u8s ((keyB res bs).take k ++ List.replicate (n - k) 0)).toArray 5 (0, 0))) ∧ Ext w wr) (fun _ i _ => n - (intOf i).toNat)
  case atStart => exact ⟨0, Nat.zero_le _, rfl, by have := hg2.out; simpa [u8s, Hid] using this, x2⟩
  case round =>
    obtain ⟨k, hk, rfl, hg, xg⟩ := hrel
    by_cases hlt : k < n
    · have rk := hr.ext xg
      obtain ⟨q, hq⟩ : ∃ q : Nat, q = (k + 1) % n := ⟨_, rfl⟩
      have hqn : q < n := by rw [hq]; exact Nat.mod_lt _ (by omega)
      have hrem : ((k : Int) + 1).tmod n = q := by rw [hq, Int.tmod_eq_emod_of_nonneg (by omega)]; exact (Int.natCast_emod (k + 1) n).symm
      have hrq : ((k : Int) + 1) % n = q := by rw [hq]; exact (Int.natCast_emod (k + 1) n).symm
      obtain ⟨b, off, rfl, hbl, hcl⟩ := rk.cell (k := q) hqn
      have HK := Lib.hid (show keyAt res bs k = bits .xor .u8 (bs[q]?.getD 0) ((37 * res + 11 * k + 90) % 256) by unfold keyAt; rw [HL.out, hq, List.getD_eq_getElem?_getD])
      have HS := Lib.hid (keyB_set (res := res) HL.out hlt)
      have HQ := Lib.hid hq
      clear hq rk
      have z := blk_free (i := k) hg.out
      have z0 := blk_cell hg.out (keyB_at (res := res) HL.out hlt)
      have hne : ((n : Int) == 0) = false := by simp; omega
      go_wp2
      go_roundw
      case rel =>
        rw [← HK.out]
        exact ⟨k + 1, by omega, by go_num, by show _ = _; rw [blk_set hg.out, HS.out], xg.setCell (Nat.le_refl _) _⟩
      case measure => simp [intOf]; omega
    · obtain rfl : k = n := by omega
      go_wp2
      go_ret
      have hk' := hg.out
      rw [Nat.sub_self, List.take_of_length_le (by rw [keyB_len, HL.out]; exact Nat.le_refl _)] at hk'
      simp only [List.replicate_zero, List.append_nil] at hk'
      exact ⟨rfl, xg, hk'⟩
section
variable {P : Program} {w : World} {o : Oper} {a : Act} {K : Act → World → Prop} {Q : Exit → Act → World → Prop}
theorem wp_makeMap (t : TypeId) (hop : o.op = Op.makeMap t none) (h : K (a.put o.dst (.map (some w.heap.size))) (w.alloc (.map #[] 0))) : o.wp P a w K Q := by
  unfold Oper.wp
  simp [execOp, hop, @run_makeMap P, Result.andThen]
  exact h
theorem wp_insert {H : Type} (m x v : Operand) (t : TypeId) (hop : o.op = Op.insert t m x v) (k e : TypeId) (KK : Keyed P k) (ht : P.underlying t = some (.map k e)) (R : Value → Option (DataW H × List MemPlace)) (b n : Nat) (D : DataW H)
    (hm : a.eval m = .map (some b)) (hown : w.ownsMap P k R b n D) (hn : n < maxLen) (key val : Value) (kl : Lit) (hx : a.eval x = key) (hv : a.eval v = val) (hkey : keyOf P k key = some kl) (d : DataW H) (ps : List MemPlace) (hval : R val = some (d, ps))
    (hK : ∀ w', w'.ownsMap P k R b (n + 1) (D.put kl d) → w.grownBy w' (some b) → K (a.put o.dst undef) w') : o.wp P a w K Q := by
  obtain ⟨w', hrun, r1, r2⟩ := hown.update KK ht hn hkey hval
  unfold Oper.wp
  simp [execOp, hop, hm, hx, hv, hrun, Result.andThen]
  exact hK w' r1 r2
theorem wp_lookup {H : Type} (m x : Operand) (t : TypeId) (hop : o.op = Op.lookup t m x false) (k e : TypeId) (q : IntKind) (KK : Keyed P k) (ht : P.underlying t = some (.map k e)) (he : P.underlying e = some (.int q)) (hz : (zeroValue e).run P w = .ok (.int q 0) w) (b n : Nat) (D : DataW H)
    (hm : a.eval m = .map (some b)) (hown : w.ownsMap P k (plainElem P e) b n D) (key : Value) (kl : Lit) (hx : a.eval x = key) (hkey : keyOf P k key = some kl)
    (hK : ∀ c : Int, D.atKey kl (.lit (.int q 0)) = .lit (.int q c) → K (a.put o.dst (.int q c)) w) : o.wp P a w K Q := by
  obtain ⟨c, hrun, hat, hwc⟩ := hown.lookup_int KK ht he hz hkey
  unfold Oper.wp
  simp [execOp, hop, hm, hx, hrun, Result.andThen]
  exact hK c hat
end
theorem law4 : Keyed Try.prog 4 := bool_keyed Try.underlying4
theorem zero5 (w : World) : (zeroValue 5).run Try.prog w = .ok (.int .u8 0) w := by kernel_rfl
theorem lookT {r c : Int} (h : ((DataW.map []).put (H := Unit) (.bool true) (.lit (.int .u8 r))).atKey (.bool true) (.lit (.int .u8 0)) = .lit (.int .u8 c)) : c = r := by
  rw [atKey_put_same ⟨_, rfl⟩ (by simp [WideAt.IsKeyLit])] at h
  injection h with h; injection h with _ h; exact h.symm
theorem lookF {r c : Int} (h : ((DataW.map []).put (H := Unit) (.bool true) (.lit (.int .u8 r))).atKey (.bool false) (.lit (.int .u8 0)) = .lit (.int .u8 c)) : c = 0 := by
  rw [atKey_put_other (by intro e; cases e)] at h
  have e : (DataW.map [] : DataW Unit).atKey (.bool false) (.lit (.int .u8 0)) = .lit (.int .u8 0) := rfl
  rw [e] at h
  injection h with h; injection h with _ h; exact h.symm
theorem whole_empty (s : LSt) (r : Int) (g : Nat) (F : Nat → Prop) (sA : Option Addr) (sc : Nat) (w : World) (hL : LkC w g s F) (hr : 0 ≤ r ∧ r < 256) (hs : Rd w sA 0 []) :
    Calls Try.prog 21 #[.pointer (some ⟨g, 0, none⟩), .int .u8 r, .slice sA 0 sc, .slice none 0 0] w (UnlPost w g F ⟨s, 1⟩) := by
  have hq : s.doSeed 0 r [] = ⟨s, 0, [], 1⟩ := by simp [LSt.doSeed]
  have HQ := Lib.hid hq
  clear hq
  go_enter Try.func21, Try.ntmps21
  go_upto_region 2 with (go_at_call 12; (refine (seed_any _ _ _ _ _ _ _ _ [] _ hs (fun h => absurd h (by omega)) (by simp) hr hL).mono ?_); rw [HQ.out]; rintro e w4 ⟨A4, c4, F4, rfl, L4, k4, r4, l4, m4, f4, q4⟩)
  go_wp2
  go_loopw [9, 10, 11] (fun v9 v10 v11 wr => v11 = .int .i64 1 ∧ v9 = .int .i64 0 ∧ v10 = .slice A4 0 c4 ∧ wr = w4) (fun _ _ _ _ => 0)
  case atStart => exact ⟨rfl, rfl, rfl, rfl⟩
  case round =>
    obtain ⟨rfl, rfl, rfl, rfl⟩ := hrel
    go_wp2
    go_loopw [3, 11] (fun v3 v11 wr' => v11 = .int .i64 1 ∧ v3 = .slice none 0 0 ∧ wr' = wr) (fun _ _ _ => 0)
    case atStart => exact ⟨rfl, rfl, rfl⟩
    case round =>
      obtain ⟨rfl, rfl, rfl⟩ := hrel
      go_wp2
      go_ret
      exact ⟨rfl, F4, L4, k4, f4⟩
theorem set_u8s {l : List Int} {i : Nat} {x : Int} : (u8s l).toArray.setIfInBounds i (.int .u8 x) = (u8s (l.set i x)).toArray := by
  simp [u8s, List.map_set]
theorem xor_eq {a b : Int} (ha : 0 ≤ a ∧ a < 256) (hb : 0 ≤ b ∧ b < 256) : bits .xor .u8 a b = a ↔ b = 0 := by
  rw [u8_xor a b ha.1 ha.2 hb.1 hb.2]
  constructor
  · intro h
    have h1 : a.toNat ^^^ b.toNat = a.toNat := by omega
    have h2 : a.toNat ^^^ (a.toNat ^^^ b.toNat) = a.toNat ^^^ a.toNat := by rw [h1]
    rw [← Nat.xor_assoc, Nat.xor_self, Nat.zero_xor] at h2
    omega
  · rintro rfl
    simp
    omega
end Go.Proofs.Ytnjiajogbadadaa
