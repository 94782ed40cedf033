import Derived.Test.YtpjficfmmfdbjaaB
set_option linter.unusedVariables false
set_option linter.unusedSimpArgs false
namespace Go.Proofs.Ytpjficfmmfdbjaa
open Go.RowKit
theorem str {w : World} {A : Option Addr} {n c : Nat} {bs : List Int} (hr : Rd w A n bs) : (convert 25 9 (.slice A n c)).run Try.prog w = .ok (.string (strOfNums bs)) w := run_str Try.underlying25 Try.underlying5 Try.underlying9 hr
theorem cells8 {w : World} {g : Nat} {t : TypeId} {fr : Nat × Nat} {x0 x1 x2 x3 x4 x5 x6 x7 : Value} (h : w.heap[g]? = some (.cells #[x0, x1, x2, x3, x4, x5, x6, x7] t fr)) :
    w.cell? ⟨g, 0, none⟩ = some x0 ∧ w.cell? ⟨g, 1, none⟩ = some x1 ∧ w.cell? ⟨g, 2, none⟩ = some x2 ∧ w.cell? ⟨g, 3, none⟩ = some x3 ∧ w.cell? ⟨g, 4, none⟩ = some x4 ∧ w.cell? ⟨g, 5, none⟩ = some x5 ∧ w.cell? ⟨g, 6, none⟩ = some x6 ∧ w.cell? ⟨g, 7, none⟩ = some x7 :=
  ⟨blk_cell h rfl, blk_cell h rfl, blk_cell h rfl, blk_cell h rfl, blk_cell h rfl, blk_cell h rfl, blk_cell h rfl, blk_cell h rfl⟩
def takeV (bs : List Int) (k : Nat) (bg sg : Bool) (mu ad : Int) : Int := mu * (if sg then sgn (takeTo bs k bg k) k else takeTo bs k bg k) + ad
theorem take_x_bd {bs : List Int} {k : Nat} (bg : Bool) (hb : Byts bs) (hk : k = 1 ∨ k = 2 ∨ k = 4) : 0 ≤ takeTo bs k bg k ∧ takeTo bs k bg k < 4294967296 := by
  have hw : isW k = true := by rw [isW_iff]; omega
  have h := refTo_bd hb k bg k
  rw [refTo_eq bs k bg hw] at h
  refine ⟨h.1, ?_⟩
  rcases hk with rfl | rfl | rfl <;> simp at h <;> omega
theorem sgn_bd {v : Int} {k : Nat} (hk : k = 1 ∨ k = 2 ∨ k = 4) : -2147483648 ≤ sgn v k ∧ sgn v k < 2147483648 := by
  rcases hk with rfl | rfl | rfl <;> simp [sgn] <;> omega
theorem mul_bd {mu x : Int} (m0 : -16777216 ≤ mu) (m1 : mu ≤ 16777216) (x0 : -4294967296 ≤ x) (x1 : x < 4294967296) : -72057594037927936 ≤ mu * x ∧ mu * x ≤ 72057594037927936 := by
  have h : (mu * x).natAbs = mu.natAbs * x.natAbs := Int.natAbs_mul _ _
  have h2 : mu.natAbs * x.natAbs ≤ 16777216 * 4294967296 := Nat.mul_le_mul (by omega) (by omega)
  omega
set_option maxHeartbeats 1000000 in
theorem take_ok (s : ByteArray) (ar aa : Int) (k : Nat) (bg sg : Bool) (mu ad : Int) (A : Option Addr) (c : Nat) (bs : List Int) (w : World) (hs : s.size ≤ maxLen) (hm : mayS s k mu = true) (a0 : -2147483648 ≤ ad) (a1 : ad < 2147483648) (hr : Rd w A k bs) (hkc : k ≤ c) :
    Calls Try.prog 12 #[.agg #[.string s, .int .u8 ar, .int .u32 aa, .int .i64 k, .bool bg, .bool sg, .int .i32 mu, .int .i32 ad], .slice A k c] w fun e w' => e = .returned (.tuple #[.int .i64 (takeV bs k bg sg mu ad), .int .i64 0]) ∧ Ext w w' := by
  obtain ⟨hw, m0, m1, mz⟩ := may_parts hm
  have hk : k = 1 ∨ k = 2 ∨ k = 4 := by omega
  have HM := Lib.hid hm
  have HW := Lib.hid (isW_k hm)
  have hk1000 : k ≤ 1000 := by omega
  obtain ⟨q0, q1⟩ := take_x_bd bg hr.byts hk
  obtain ⟨s0, s1⟩ := sgn_bd (v := takeTo bs k bg k) hk
  clear hm hw
  have hlen := hr.len
  go_enter Try.func12, Try.ntmps12
  go_upto_region 3 with (go_at_call 15; (with_reducible refine (may_any _ _ _ _ _ _ _ _ _ hs).mono ?_); rintro e w1 ⟨rfl, x1⟩; rw [HM.out])
  have K1 := blk_of x1
  have z1 := ((Ext.refl w).alloc (.cells #[.string s, .int .u8 ar, .int .u32 aa, .int .i64 k, .bool bg, .bool sg, .int .i32 mu, .int .i32 ad] 24)).trans x1
  have r1 := hr.ext z1
  clear x1 hlen
  have f3 := blk_cell (i := 3) K1 rfl
  have f4 := blk_cell (i := 4) K1 rfl
  go_upto_region 8 with (go_at_call 26; (with_reducible refine (take_any _ _ _ _ _ _ _ r1 hk1000 hkc HW.out (by omega)).mono ?_); rintro e w2 ⟨A2, c2, rfl, _, _, x2, _⟩)
  have K2 := (x2.block _ (blk_lt K1)).trans K1
  have f5 := blk_cell (i := 5) K2 rfl
  have g3 := blk_cell (i := 3) K2 rfl
  have f6 := blk_cell (i := 6) K2 rfl
  have f7 := blk_cell (i := 7) K2 rfl
  clear f3 f4 K1
  have HV := Lib.hid (show takeV bs k bg sg mu ad = mu * (if sg then sgn (takeTo bs k bg k) k else takeTo bs k bg k) + ad from rfl)
  generalize hx : takeTo bs k bg k = x at *
  have HX := Lib.hid hx
  clear hx
  rcases sg with _ | _
  · obtain ⟨p0, p1⟩ := mul_bd m0 m1 (show -4294967296 ≤ x by omega) q1
    go_wp2
    go_ret2
    exact ⟨by rw [HV.out]; rfl, z1.trans x2⟩
  · obtain ⟨p0, p1⟩ := mul_bd m0 m1 (show -4294967296 ≤ sgn x k by omega) (show sgn x k < 4294967296 by omega)
    go_wp2_with (go_at_call 27; (with_reducible refine (signed_any _ _ _ HW.out q0 (by omega)).mono ?_); rintro e w3 ⟨rfl, rfl⟩)
    go_ret2
    exact ⟨by rw [HV.out]; rfl, z1.trans x2⟩
end Go.Proofs.Ytpjficfmmfdbjaa
