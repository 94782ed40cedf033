import Derived.Test.YtnjiajogbadadaaB
import Derived.Laws.BitsAllLaws
set_option linter.unusedVariables false
set_option linter.unusedSimpArgs false
namespace Go.Proofs.Ytnjiajogbadadaa
open Go.RowKit
theorem el29 : Elem Try.prog 29 5 1 1 (.int .u8 0) := Elem.mk' Try.underlying29 (by kernel_rfl) rfl (by omega)
def keyAt (res : Int) (s : List Int) (i : Nat) : Int := bits .xor .u8 (s.getD ((i + 1) % s.length) 0) ((37 * res + 11 * i + 90) % 256)
def keyB (res : Int) (s : List Int) : List Int := (List.range s.length).map (keyAt res s)
theorem keyB_len (res : Int) (s : List Int) : (keyB res s).length = s.length := by simp [keyB]
theorem xor_bd {a b : Int} (ha : 0 ≤ a ∧ a < 256) (hb : 0 ≤ b ∧ b < 256) : 0 ≤ bits .xor .u8 a b ∧ bits .xor .u8 a b < 256 := by
  rw [u8_xor a b ha.1 ha.2 hb.1 hb.2]
  have := Nat.xor_lt_two_pow (n := 8) (x := a.toNat) (y := b.toNat) (by omega) (by omega)
  omega
theorem rd_blk {W : World} {g : Nat} {cs : List Int} {t : TypeId} {fr : Nat × Nat} (K : W.heap[g]? = some (.cells (u8s cs).toArray t fr)) (h : Byts cs) : Rd W (some ⟨g, 0, none⟩) cs.length cs :=
  ⟨⟨by simp [u8s], fun _ => ⟨_, rfl, blk_lt K, fun j u hu => cells_of_blk (off := 0) K j u (by simpa using hu)⟩⟩, h⟩
theorem keyAt_bd (res : Int) (s : List Int) (i : Nat) (h : Byts s) : 0 ≤ keyAt res s i ∧ keyAt res s i < 256 := xor_bd (h.getD _) (by omega)
theorem keyB_byts {res : Int} {s : List Int} (h : Byts s) : Byts (keyB res s) := by
  intro b hb
  simp only [keyB, List.mem_map] at hb
  obtain ⟨i, _, rfl⟩ := hb
  exact keyAt_bd res s i h
theorem keyB_get {res : Int} {s : List Int} {i : Nat} (h : i < s.length) : (keyB res s)[i]? = some (keyAt res s i) := by simp [keyB, h]
theorem keyB_set {res : Int} {s : List Int} {k n : Nat} (hn : s.length = n) (h : k < n) :
    (u8s ((keyB res s).take k ++ List.replicate (n - k) 0)).toArray.setIfInBounds k (.int .u8 (keyAt res s k)) = (u8s ((keyB res s).take (k + 1) ++ List.replicate (n - (k + 1)) 0)).toArray := by
  have hl := keyB_len res s
  apply Array.toList_inj.1
  simp only [Array.toList_setIfInBounds]
  rw [List.take_add_one, keyB_get (by omega)]
  rw [show n - k = (n - (k + 1)) + 1 by omega, List.replicate_succ]
  simp only [u8s, List.map_append, List.map_cons, Option.toList_some, List.append_assoc, List.singleton_append]
  rw [List.set_append_right _ _ (by simp; omega)]
  simp [show k - min k (keyB res s).length = 0 by omega]
theorem keyB_at {res : Int} {s : List Int} {k n : Nat} (hn : s.length = n) (h : k < n) :
    (u8s ((keyB res s).take k ++ List.replicate (n - k) 0)).toArray[k]? = some (.int .u8 0) := by
  have hl := keyB_len res s
  simp only [u8s, List.getElem?_toArray, List.getElem?_map]
  rw [List.getElem?_append_right (by simp; omega), List.getElem?_replicate]
  simp [show k - min k (keyB res s).length < n - k by omega]
set_option maxHeartbeats 1000000 in
theorem key_any (A : Option Addr) (n c : Nat) (bs : List Int) (res : Int) (w : World) (hr : Rd w A n bs) (hn : n ≤ 1000) (r0 : 0 ≤ res) (r1 : res < 256) :
    Calls Try.prog 20 #[.slice A n c, .int .u8 res] w fun e w' => ∃ A', e = .returned (.slice A' n n) ∧ Ext w w' ∧ Rd w' A' n (keyB res bs) ∧ ∀ ad, A' = some ad → w.heap.size ≤ ad.block := by
  have hl := hr.len
  have HL := Lib.hid hl
  clear hl
  have hn0 : (0 : Int) ≤ n := by omega
  go_enter Try.func20, Try.ntmps20
  go_wp2_with (at_make; refine wpList_make1 el29 rfl rfl _ _ rfl rfl rfl hn0 (by omega) (by omega) ?_; intro w2 hg2 x2 hs2)
  go_loopw [6, 12] (fun _ i wr => ∃ k : Nat, k ≤ n ∧ i = .int .i64 k ∧ Hid (wr.heap[w.heap.size]? = some (.cells (u8s ((keyB res bs).take k ++ List.replicate (n - k) 0)).toArray 5 (0, 0))) ∧ Ext w wr) (fun _ i _ => n - (intOf i).toNat)
  case atStart => exact ⟨0, Nat.zero_le _, rfl, by have := hg2.out; simpa [u8s, Hid] using this, x2⟩
  case round =>
    obtain ⟨k, hk, rfl, hg, xg⟩ := hrel
    by_cases hlt : k < n
    · have rk := hr.ext xg
      obtain ⟨q, hq⟩ : ∃ q : Nat, q = (k + 1) % n := ⟨_, rfl⟩
      have hqn : q < n := by rw [hq]; exact Nat.mod_lt _ (by omega)
      have hrem : ((k : Int) + 1).tmod n = q := by rw [hq, Int.tmod_eq_emod_of_nonneg (by omega)]; exact (Int.natCast_emod (k + 1) n).symm
      have hrq : ((k : Int) + 1) % n = q := by rw [hq]; exact (Int.natCast_emod (k + 1) n).symm
      obtain ⟨b, off, rfl, hbl, hcl⟩ := rk.cell (k := q) hqn
      have HK := Lib.hid (show keyAt res bs k = bits .xor .u8 (bs[q]?.getD 0) ((37 * res + 11 * k + 90) % 256) by unfold keyAt; rw [HL.out, hq, List.getD_eq_getElem?_getD])
      have HS := Lib.hid (keyB_set (res := res) HL.out hlt)
      have HQ := Lib.hid hq
      clear hq rk
      have z := blk_free (i := k) hg.out
      have z0 := blk_cell hg.out (keyB_at (res := res) HL.out hlt)
      have hne : ((n : Int) == 0) = false := by simp; omega
      go_wp2
      go_roundw
      case rel =>
        rw [← HK.out]
        exact ⟨k + 1, by omega, by go_num, by show _ = _; rw [blk_set hg.out, HS.out], xg.setCell (Nat.le_refl _) _⟩
      case measure => simp [intOf]; omega
    · obtain rfl : k = n := by omega
      go_wp2
      go_ret
      have hk' := hg.out
      rw [Nat.sub_self, List.take_of_length_le (by rw [keyB_len, HL.out]; exact Nat.le_refl _)] at hk'
      simp only [List.replicate_zero, List.append_nil] at hk'
      have rk := rd_blk hk' (keyB_byts hr.byts)
      rw [keyB_len, HL.out] at rk
      exact ⟨_, rfl, xg, rk, fun ad e => by injection e with e; subst e; exact Nat.le_refl _⟩
end Go.Proofs.Ytnjiajogbadadaa
