import Derived.Test.YtjgmnbfadnlikaaB
import Derived.BigQuiet
set_option linter.unusedVariables false
set_option linter.unusedSimpArgs false
namespace Go.Proofs.Ytjgmnbfadnlikaa
open Go.RowKit
theorem size64 : (Try.prog.info? 64).map (·.size) = some 3 := by kernel_rfl
theorem wru (n : Nat) (h : n < 18446744073709551616) : IntKind.u64.wrap (n : Int) = n := by simp [IntKind.wrap, IntKind.bits, IntKind.signed]; omega
theorem wri (n : Nat) (h : n < 9223372036854775808) : IntKind.i64.wrap (n : Int) = n := by rw [IntKind.wrap_i64]; omega
theorem wr64 (n : Nat) (h : n < 9223372036854775808) : wrap64 (n : Int) = n := by unfold wrap64; omega
set_option maxHeartbeats 1000000 in
theorem find_ram_end1 {w : World} {g L c n0 c0 : Nat} {A sA : Option Addr} (at_ m : Nat) (hat : at_ < 4294967296) (hm : m < 9223372036854775808) (hL : L ≤ 1024) (he : L < at_ + m) (K : w.heap[g]? = some (.cells #[.slice A L c, .slice sA n0 c0] 62 (0, 0))) :
    Calls Try.prog 32 #[.pointer (some ⟨g, 0, none⟩), .int .u8 1, .int .u8 0, .int .u32 (at_ : Int), .int .i64 (m : Int)] w fun e w' => e = .returned (.tuple #[.slice none 0 0, .bool false, .int .i64 80]) ∧ w = w' := by
  obtain ⟨k0, k1⟩ := cells2 K
  obtain ⟨q, hq⟩ : ∃ q, q = at_ + m := ⟨_, rfl⟩
  have hadd : (at_ : Int) + m = (q : Int) := by omega
  have b1 : at_ < 18446744073709551616 := by omega
  have b2 : m < 18446744073709551616 := by omega
  have b3 : q < 18446744073709551616 := by omega
  have b4 : L < 18446744073709551616 := by omega
  have b5 : at_ < 9223372036854775808 := by omega
  have hn0 : ¬ ((m : Int) < 0) := by omega
  have hz0 : ¬ ((n0 : Int) < 0) := by omega
  have c4 : (L : Int) < q := by omega
  have u1 := wru at_ b1
  have u2 := wru m b2
  have u3 := wru q b3
  have u4 := wru L b4
  have i1 := wri at_ b5
  clear b1 b2 b3 b4 b5
  clear hq he
  go_enter Try.func32, Try.ntmps32
  go_wp2_with (go_at_call 33; (refine (place_1 _).mono ?_); rintro e w1 ⟨rfl, rfl⟩)
  go_ret3
  exact ⟨rfl, rfl⟩
set_option maxHeartbeats 1000000 in
theorem find_ram_ok1 {w : World} {g L c n0 c0 : Nat} {A sA : Option Addr} (at_ m : Nat) (hat : at_ < 4294967296) (hm : m < 9223372036854775808) (hL : L ≤ 1024) (he : at_ + m ≤ L) (hLc : L ≤ c) (K : w.heap[g]? = some (.cells #[.slice A L c, .slice sA n0 c0] 62 (0, 0))) :
    Calls Try.prog 32 #[.pointer (some ⟨g, 0, none⟩), .int .u8 1, .int .u8 0, .int .u32 (at_ : Int), .int .i64 (m : Int)] w fun e w' => e = .returned (.tuple #[.slice (if c = at_ then A else Option.map (fun x => x.add at_) A) m (c - at_), .bool true, .int .i64 0]) ∧ w = w' := by
  obtain ⟨k0, k1⟩ := cells2 K
  obtain ⟨q, hq⟩ : ∃ q, q = at_ + m := ⟨_, rfl⟩
  have hadd : (at_ : Int) + m = (q : Int) := by omega
  have b1 : at_ < 18446744073709551616 := by omega
  have b2 : m < 18446744073709551616 := by omega
  have b3 : q < 18446744073709551616 := by omega
  have b4 : L < 18446744073709551616 := by omega
  have b5 : at_ < 9223372036854775808 := by omega
  have hn0 : ¬ ((m : Int) < 0) := by omega
  have hz0 : ¬ ((n0 : Int) < 0) := by omega
  have b6 : q < 9223372036854775808 := by omega
  have c1 : at_ ≤ q := by omega
  have c2 : q ≤ c := by omega
  have c3 : q - at_ = m := by omega
  have c4 : ¬ ((L : Int) < q) := by omega
  have c5 : (at_ : Int) ≤ q := by omega
  have c6 : (q : Int) ≤ c := by omega
  have i2 := wri q b6
  clear b6
  obtain ⟨pA, hpA⟩ : ∃ p, (if c = at_ then A else Option.map (fun x => x.add at_) A) = p := ⟨_, rfl⟩
  rw [hpA]
  have u1 := wru at_ b1
  have u2 := wru m b2
  have u3 := wru q b3
  have u4 := wru L b4
  have i1 := wri at_ b5
  clear b1 b2 b3 b4 b5
  clear hq he
  go_enter Try.func32, Try.ntmps32
  go_wp2_with (go_at_call 33; (refine (place_1 _).mono ?_); rintro e w1 ⟨rfl, rfl⟩)
  go_ret3
  exact ⟨rfl, rfl⟩
set_option maxHeartbeats 1000000 in
theorem find_ram_end2 {w : World} {g L c n0 c0 : Nat} {A sA : Option Addr} (at_ m : Nat) (hat : at_ < 4294967296) (hm : m < 9223372036854775808) (hL : L ≤ 1024) (he : L < at_ + m) (K : w.heap[g]? = some (.cells #[.slice A L c, .slice sA n0 c0] 62 (0, 0))) :
    Calls Try.prog 32 #[.pointer (some ⟨g, 0, none⟩), .int .u8 2, .int .u8 0, .int .u32 (at_ : Int), .int .i64 (m : Int)] w fun e w' => e = .returned (.tuple #[.slice none 0 0, .bool false, .int .i64 80]) ∧ w = w' := by
  obtain ⟨k0, k1⟩ := cells2 K
  obtain ⟨q, hq⟩ : ∃ q, q = at_ + m := ⟨_, rfl⟩
  have hadd : (at_ : Int) + m = (q : Int) := by omega
  have b1 : at_ < 18446744073709551616 := by omega
  have b2 : m < 18446744073709551616 := by omega
  have b3 : q < 18446744073709551616 := by omega
  have b4 : L < 18446744073709551616 := by omega
  have b5 : at_ < 9223372036854775808 := by omega
  have hn0 : ¬ ((m : Int) < 0) := by omega
  have hz0 : ¬ ((n0 : Int) < 0) := by omega
  have c4 : (L : Int) < q := by omega
  have u1 := wru at_ b1
  have u2 := wru m b2
  have u3 := wru q b3
  have u4 := wru L b4
  have i1 := wri at_ b5
  clear b1 b2 b3 b4 b5
  clear hq he
  go_enter Try.func32, Try.ntmps32
  go_wp2_with (go_at_call 33; (refine (place_2 _).mono ?_); rintro e w1 ⟨rfl, rfl⟩)
  go_ret3
  exact ⟨rfl, rfl⟩
set_option maxHeartbeats 1000000 in
theorem find_ram_ok2 {w : World} {g L c n0 c0 : Nat} {A sA : Option Addr} (at_ m : Nat) (hat : at_ < 4294967296) (hm : m < 9223372036854775808) (hL : L ≤ 1024) (he : at_ + m ≤ L) (hLc : L ≤ c) (K : w.heap[g]? = some (.cells #[.slice A L c, .slice sA n0 c0] 62 (0, 0))) :
    Calls Try.prog 32 #[.pointer (some ⟨g, 0, none⟩), .int .u8 2, .int .u8 0, .int .u32 (at_ : Int), .int .i64 (m : Int)] w fun e w' => e = .returned (.tuple #[.slice (if c = at_ then A else Option.map (fun x => x.add at_) A) m (c - at_), .bool true, .int .i64 0]) ∧ w = w' := by
  obtain ⟨k0, k1⟩ := cells2 K
  obtain ⟨q, hq⟩ : ∃ q, q = at_ + m := ⟨_, rfl⟩
  have hadd : (at_ : Int) + m = (q : Int) := by omega
  have b1 : at_ < 18446744073709551616 := by omega
  have b2 : m < 18446744073709551616 := by omega
  have b3 : q < 18446744073709551616 := by omega
  have b4 : L < 18446744073709551616 := by omega
  have b5 : at_ < 9223372036854775808 := by omega
  have hn0 : ¬ ((m : Int) < 0) := by omega
  have hz0 : ¬ ((n0 : Int) < 0) := by omega
  have b6 : q < 9223372036854775808 := by omega
  have c1 : at_ ≤ q := by omega
  have c2 : q ≤ c := by omega
  have c3 : q - at_ = m := by omega
  have c4 : ¬ ((L : Int) < q) := by omega
  have c5 : (at_ : Int) ≤ q := by omega
  have c6 : (q : Int) ≤ c := by omega
  have i2 := wri q b6
  clear b6
  obtain ⟨pA, hpA⟩ : ∃ p, (if c = at_ then A else Option.map (fun x => x.add at_) A) = p := ⟨_, rfl⟩
  rw [hpA]
  have u1 := wru at_ b1
  have u2 := wru m b2
  have u3 := wru q b3
  have u4 := wru L b4
  have i1 := wri at_ b5
  clear b1 b2 b3 b4 b5
  clear hq he
  go_enter Try.func32, Try.ntmps32
  go_wp2_with (go_at_call 33; (refine (place_2 _).mono ?_); rintro e w1 ⟨rfl, rfl⟩)
  go_ret3
  exact ⟨rfl, rfl⟩
theorem bne_cast (n : Nat) : (((n : Nat) : Int) != 0) = (n != 0) := by
  rcases Nat.eq_zero_or_pos n with h | h
  · subst h; rfl
  · have h1 : ((n : Int) == 0) = false := by simp; omega
    have h2 : (n == 0) = false := by simp; omega
    simp only [bne, h1, h2]
theorem one3 {A : Option Addr} {n c : Nat} {a b : Int} : ∀ u ∈ ([.slice A n c, .int .i64 a, .int .i64 b] : List Value), u.oneCell' = true := by
  intro u hu
  simp at hu
  rcases hu with rfl | rfl | rfl <;> rfl
theorem cell_ext {w W : World} {ad : Addr} {v : Value} (x : Ext w W) (h : w.cell? ad = some v) : W.cell? ad = some v :=
  (World.cell?_of_block (x.block _ (World.block_lt_of_cell? w _ h))).trans h
set_option maxHeartbeats 1000000 in
theorem find_seg_end1 {w : World} {g L c n0 c0 np pc rn rc i area a x sg P : Nat} {A rA : Option Addr} {may : Bool} (at_ m : Nat) (hat : at_ < 4294967296) (hm : m < 9223372036854775808) (hL : L ≤ 1024) (he : L < at_ + m) (K : w.heap[g]? = some (.cells #[.slice rA rn rc, .slice (some ⟨sg, 0, none⟩) n0 c0] 62 (0, 0)))
    (hi : i < n0) (hin : n0 ≤ 4) (hai : area = i + 1) (hr : w.rangeAt sg (i * 3) [.slice (some ⟨P, 0, none⟩) np pc, .int .i64 (a : Int), .int .i64 (x : Int)]) (hs : a < np) (hP : w.cell? ⟨P, a, none⟩ = some (.slice A L c)) (hmay : may = (a != 0)) :
    Calls Try.prog 32 #[.pointer (some ⟨g, 0, none⟩), .int .u8 1, .int .u8 (area : Int), .int .u32 (at_ : Int), .int .i64 (m : Int)] w fun e w' => e = .returned (.tuple #[.slice none 0 0, .bool false, .int .i64 80]) ∧ Ext w w' := by
  obtain ⟨k0, k1⟩ := cells2 K
  have d1 : ¬ ((area : Int) > n0) := by omega
  have d2 : (0 : Int) < area := by omega
  have d3 : (area : Int) - 1 = (i : Int) := by omega
  have d4 : (i : Int) < n0 := by omega
  have d5 : (a : Int) < np := by omega
  have d7 : area < 256 := by omega
  have d9 : area < 9223372036854775808 := by omega
  have d8 : i < 256 := by omega
  obtain ⟨q, hq⟩ : ∃ q, q = at_ + m := ⟨_, rfl⟩
  have hadd : (at_ : Int) + m = (q : Int) := by omega
  have b1 : at_ < 18446744073709551616 := by omega
  have b2 : m < 18446744073709551616 := by omega
  have b3 : q < 18446744073709551616 := by omega
  have b4 : L < 18446744073709551616 := by omega
  have b5 : at_ < 9223372036854775808 := by omega
  have hn0 : ¬ ((m : Int) < 0) := by omega
  have c4 : (L : Int) < q := by omega
  have u1 := wru at_ b1
  have u2 := wru m b2
  have u3 := wru q b3
  have u4 := wru L b4
  have i1 := wri at_ b5
  clear b1 b2 b3 b4 b5
  have e1 := wri area d9
  have e2 := wr8 d8
  clear hq he hai d7 d8 d9 hat hm hL
  go_enter Try.func32, Try.ntmps32
  go_upto_region 10 with (go_at_call 33; (refine (place_1 _).mono ?_); rintro e w1 ⟨rfl, rfl⟩)
  go_upto_region 11 with (first | refine wpList_load_mid rfl 64 _ rfl _ _ rfl [.slice (some ⟨P, 0, none⟩) np pc, .int .i64 (a : Int), .int .i64 (x : Int)] _ hr Try.underlying64 rfl size64 ?_ | refine wpList_stnew rfl 64 _ _ rfl rfl [.slice (some ⟨P, 0, none⟩) np pc, .int .i64 (a : Int), .int .i64 (x : Int)] rfl rfl size64 rfl one3 ?_)
  obtain ⟨w4, hw4⟩ : ∃ V, V = w.alloc (.cells ([.slice (some ⟨P, 0, none⟩) np pc, .int .i64 (a : Int), .int .i64 (x : Int)] : List Value).toArray 64) := ⟨_, rfl⟩
  have k4 : w4.heap[w.heap.size]? = some (.cells #[.slice (some ⟨P, 0, none⟩) np pc, .int .i64 (a : Int), .int .i64 (x : Int)] 64 (0, 0)) := by rw [hw4]; exact heap_alloc_new _ _
  have x4 : Ext w w4 := by rw [hw4]; exact (Ext.refl _).alloc _
  rw [← hw4]
  clear hw4
  have p4 := cell_ext x4 hP
  obtain ⟨m0, m1, m2⟩ := cells3 k4
  clear k0 k1 hr
  have hb : (((a : Nat) : Int) != 0) = may := by rw [hmay]; exact bne_cast a
  clear hmay
  go_quiet (fail)
  obtain ⟨w5, hWq⟩ : ∃ z : World, z = World.drewN w4 nq := ⟨_, rfl⟩
  rw [← hWq]
  have xw5 : Ext w4 w5 := by rw [hWq]; exact (Ext.refl _).drewN _
  clear hWq
  go_wp2
  go_ret3
  exact ⟨rfl, x4.trans xw5⟩
set_option maxHeartbeats 1000000 in
theorem find_seg_ok1 {w : World} {g L c n0 c0 np pc rn rc i area a x sg P : Nat} {A rA : Option Addr} {may : Bool} (at_ m : Nat) (hat : at_ < 4294967296) (hm : m < 9223372036854775808) (hL : L ≤ 1024) (he : at_ + m ≤ L) (hLc : L ≤ c) (K : w.heap[g]? = some (.cells #[.slice rA rn rc, .slice (some ⟨sg, 0, none⟩) n0 c0] 62 (0, 0)))
    (hi : i < n0) (hin : n0 ≤ 4) (hai : area = i + 1) (hr : w.rangeAt sg (i * 3) [.slice (some ⟨P, 0, none⟩) np pc, .int .i64 (a : Int), .int .i64 (x : Int)]) (hs : a < np) (hP : w.cell? ⟨P, a, none⟩ = some (.slice A L c)) (hmay : may = (a != 0)) :
    Calls Try.prog 32 #[.pointer (some ⟨g, 0, none⟩), .int .u8 1, .int .u8 (area : Int), .int .u32 (at_ : Int), .int .i64 (m : Int)] w fun e w' => e = .returned (.tuple #[.slice (if c = at_ then A else Option.map (fun x => x.add at_) A) m (c - at_), .bool may, .int .i64 0]) ∧ Ext w w' := by
  obtain ⟨k0, k1⟩ := cells2 K
  have d1 : ¬ ((area : Int) > n0) := by omega
  have d2 : (0 : Int) < area := by omega
  have d3 : (area : Int) - 1 = (i : Int) := by omega
  have d4 : (i : Int) < n0 := by omega
  have d5 : (a : Int) < np := by omega
  have d7 : area < 256 := by omega
  have d9 : area < 9223372036854775808 := by omega
  have d8 : i < 256 := by omega
  obtain ⟨q, hq⟩ : ∃ q, q = at_ + m := ⟨_, rfl⟩
  have hadd : (at_ : Int) + m = (q : Int) := by omega
  have b1 : at_ < 18446744073709551616 := by omega
  have b2 : m < 18446744073709551616 := by omega
  have b3 : q < 18446744073709551616 := by omega
  have b4 : L < 18446744073709551616 := by omega
  have b5 : at_ < 9223372036854775808 := by omega
  have hn0 : ¬ ((m : Int) < 0) := by omega
  have b6 : q < 9223372036854775808 := by omega
  have c1 : at_ ≤ q := by omega
  have c2 : q ≤ c := by omega
  have c3 : q - at_ = m := by omega
  have c4 : ¬ ((L : Int) < q) := by omega
  have c5 : (at_ : Int) ≤ q := by omega
  have c6 : (q : Int) ≤ c := by omega
  have i2 := wri q b6
  clear b6
  obtain ⟨pA, hpA⟩ : ∃ p, (if c = at_ then A else Option.map (fun x => x.add at_) A) = p := ⟨_, rfl⟩
  rw [hpA]
  have u1 := wru at_ b1
  have u2 := wru m b2
  have u3 := wru q b3
  have u4 := wru L b4
  have i1 := wri at_ b5
  clear b1 b2 b3 b4 b5
  have e1 := wri area d9
  have e2 := wr8 d8
  clear hq he hai d7 d8 d9 hat hm hL
  go_enter Try.func32, Try.ntmps32
  go_upto_region 10 with (go_at_call 33; (refine (place_1 _).mono ?_); rintro e w1 ⟨rfl, rfl⟩)
  go_upto_region 11 with (first | refine wpList_load_mid rfl 64 _ rfl _ _ rfl [.slice (some ⟨P, 0, none⟩) np pc, .int .i64 (a : Int), .int .i64 (x : Int)] _ hr Try.underlying64 rfl size64 ?_ | refine wpList_stnew rfl 64 _ _ rfl rfl [.slice (some ⟨P, 0, none⟩) np pc, .int .i64 (a : Int), .int .i64 (x : Int)] rfl rfl size64 rfl one3 ?_)
  obtain ⟨w4, hw4⟩ : ∃ V, V = w.alloc (.cells ([.slice (some ⟨P, 0, none⟩) np pc, .int .i64 (a : Int), .int .i64 (x : Int)] : List Value).toArray 64) := ⟨_, rfl⟩
  have k4 : w4.heap[w.heap.size]? = some (.cells #[.slice (some ⟨P, 0, none⟩) np pc, .int .i64 (a : Int), .int .i64 (x : Int)] 64 (0, 0)) := by rw [hw4]; exact heap_alloc_new _ _
  have x4 : Ext w w4 := by rw [hw4]; exact (Ext.refl _).alloc _
  rw [← hw4]
  clear hw4
  have p4 := cell_ext x4 hP
  obtain ⟨m0, m1, m2⟩ := cells3 k4
  clear k0 k1 hr
  have hb : (((a : Nat) : Int) != 0) = may := by rw [hmay]; exact bne_cast a
  clear hmay
  go_quiet (fail)
  obtain ⟨w5, hWq⟩ : ∃ z : World, z = World.drewN w4 nq := ⟨_, rfl⟩
  rw [← hWq]
  have xw5 : Ext w4 w5 := by rw [hWq]; exact (Ext.refl _).drewN _
  clear hWq
  go_wp2
  go_ret3
  exact ⟨by simp [← hb], x4.trans xw5⟩
set_option maxHeartbeats 1000000 in
theorem find_seg_end2 {w : World} {g L c n0 c0 np pc rn rc i area a x sg P : Nat} {A rA : Option Addr} {may : Bool} (at_ m : Nat) (hat : at_ < 4294967296) (hm : m < 9223372036854775808) (hL : L ≤ 1024) (he : L < at_ + m) (K : w.heap[g]? = some (.cells #[.slice rA rn rc, .slice (some ⟨sg, 0, none⟩) n0 c0] 62 (0, 0)))
    (hi : i < n0) (hin : n0 ≤ 4) (hai : area = i + 1) (hr : w.rangeAt sg (i * 3) [.slice (some ⟨P, 0, none⟩) np pc, .int .i64 (a : Int), .int .i64 (x : Int)]) (hs : x < np) (hP : w.cell? ⟨P, x, none⟩ = some (.slice A L c)) (hmay : may = (x != 0)) :
    Calls Try.prog 32 #[.pointer (some ⟨g, 0, none⟩), .int .u8 2, .int .u8 (area : Int), .int .u32 (at_ : Int), .int .i64 (m : Int)] w fun e w' => e = .returned (.tuple #[.slice none 0 0, .bool false, .int .i64 80]) ∧ Ext w w' := by
  obtain ⟨k0, k1⟩ := cells2 K
  have d1 : ¬ ((area : Int) > n0) := by omega
  have d2 : (0 : Int) < area := by omega
  have d3 : (area : Int) - 1 = (i : Int) := by omega
  have d4 : (i : Int) < n0 := by omega
  have d5 : (x : Int) < np := by omega
  have d7 : area < 256 := by omega
  have d9 : area < 9223372036854775808 := by omega
  have d8 : i < 256 := by omega
  obtain ⟨q, hq⟩ : ∃ q, q = at_ + m := ⟨_, rfl⟩
  have hadd : (at_ : Int) + m = (q : Int) := by omega
  have b1 : at_ < 18446744073709551616 := by omega
  have b2 : m < 18446744073709551616 := by omega
  have b3 : q < 18446744073709551616 := by omega
  have b4 : L < 18446744073709551616 := by omega
  have b5 : at_ < 9223372036854775808 := by omega
  have hn0 : ¬ ((m : Int) < 0) := by omega
  have c4 : (L : Int) < q := by omega
  have u1 := wru at_ b1
  have u2 := wru m b2
  have u3 := wru q b3
  have u4 := wru L b4
  have i1 := wri at_ b5
  clear b1 b2 b3 b4 b5
  have e1 := wri area d9
  have e2 := wr8 d8
  clear hq he hai d7 d8 d9 hat hm hL
  go_enter Try.func32, Try.ntmps32
  go_upto_region 10 with (go_at_call 33; (refine (place_2 _).mono ?_); rintro e w1 ⟨rfl, rfl⟩)
  go_upto_region 11 with (first | refine wpList_load_mid rfl 64 _ rfl _ _ rfl [.slice (some ⟨P, 0, none⟩) np pc, .int .i64 (a : Int), .int .i64 (x : Int)] _ hr Try.underlying64 rfl size64 ?_ | refine wpList_stnew rfl 64 _ _ rfl rfl [.slice (some ⟨P, 0, none⟩) np pc, .int .i64 (a : Int), .int .i64 (x : Int)] rfl rfl size64 rfl one3 ?_)
  obtain ⟨w4, hw4⟩ : ∃ V, V = w.alloc (.cells ([.slice (some ⟨P, 0, none⟩) np pc, .int .i64 (a : Int), .int .i64 (x : Int)] : List Value).toArray 64) := ⟨_, rfl⟩
  have k4 : w4.heap[w.heap.size]? = some (.cells #[.slice (some ⟨P, 0, none⟩) np pc, .int .i64 (a : Int), .int .i64 (x : Int)] 64 (0, 0)) := by rw [hw4]; exact heap_alloc_new _ _
  have x4 : Ext w w4 := by rw [hw4]; exact (Ext.refl _).alloc _
  rw [← hw4]
  clear hw4
  have p4 := cell_ext x4 hP
  obtain ⟨m0, m1, m2⟩ := cells3 k4
  clear k0 k1 hr
  have hb : (((x : Nat) : Int) != 0) = may := by rw [hmay]; exact bne_cast x
  clear hmay
  go_quiet (fail)
  obtain ⟨w5, hWq⟩ : ∃ z : World, z = World.drewN w4 nq := ⟨_, rfl⟩
  rw [← hWq]
  have xw5 : Ext w4 w5 := by rw [hWq]; exact (Ext.refl _).drewN _
  clear hWq
  go_wp2
  go_ret3
  exact ⟨rfl, x4.trans xw5⟩
set_option maxHeartbeats 1000000 in
theorem find_seg_ok2 {w : World} {g L c n0 c0 np pc rn rc i area a x sg P : Nat} {A rA : Option Addr} {may : Bool} (at_ m : Nat) (hat : at_ < 4294967296) (hm : m < 9223372036854775808) (hL : L ≤ 1024) (he : at_ + m ≤ L) (hLc : L ≤ c) (K : w.heap[g]? = some (.cells #[.slice rA rn rc, .slice (some ⟨sg, 0, none⟩) n0 c0] 62 (0, 0)))
    (hi : i < n0) (hin : n0 ≤ 4) (hai : area = i + 1) (hr : w.rangeAt sg (i * 3) [.slice (some ⟨P, 0, none⟩) np pc, .int .i64 (a : Int), .int .i64 (x : Int)]) (hs : x < np) (hP : w.cell? ⟨P, x, none⟩ = some (.slice A L c)) (hmay : may = (x != 0)) :
    Calls Try.prog 32 #[.pointer (some ⟨g, 0, none⟩), .int .u8 2, .int .u8 (area : Int), .int .u32 (at_ : Int), .int .i64 (m : Int)] w fun e w' => e = .returned (.tuple #[.slice (if c = at_ then A else Option.map (fun x => x.add at_) A) m (c - at_), .bool may, .int .i64 0]) ∧ Ext w w' := by
  obtain ⟨k0, k1⟩ := cells2 K
  have d1 : ¬ ((area : Int) > n0) := by omega
  have d2 : (0 : Int) < area := by omega
  have d3 : (area : Int) - 1 = (i : Int) := by omega
  have d4 : (i : Int) < n0 := by omega
  have d5 : (x : Int) < np := by omega
  have d7 : area < 256 := by omega
  have d9 : area < 9223372036854775808 := by omega
  have d8 : i < 256 := by omega
  obtain ⟨q, hq⟩ : ∃ q, q = at_ + m := ⟨_, rfl⟩
  have hadd : (at_ : Int) + m = (q : Int) := by omega
  have b1 : at_ < 18446744073709551616 := by omega
  have b2 : m < 18446744073709551616 := by omega
  have b3 : q < 18446744073709551616 := by omega
  have b4 : L < 18446744073709551616 := by omega
  have b5 : at_ < 9223372036854775808 := by omega
  have hn0 : ¬ ((m : Int) < 0) := by omega
  have b6 : q < 9223372036854775808 := by omega
  have c1 : at_ ≤ q := by omega
  have c2 : q ≤ c := by omega
  have c3 : q - at_ = m := by omega
  have c4 : ¬ ((L : Int) < q) := by omega
  have c5 : (at_ : Int) ≤ q := by omega
  have c6 : (q : Int) ≤ c := by omega
  have i2 := wri q b6
  clear b6
  obtain ⟨pA, hpA⟩ : ∃ p, (if c = at_ then A else Option.map (fun x => x.add at_) A) = p := ⟨_, rfl⟩
  rw [hpA]
  have u1 := wru at_ b1
  have u2 := wru m b2
  have u3 := wru q b3
  have u4 := wru L b4
  have i1 := wri at_ b5
  clear b1 b2 b3 b4 b5
  have e1 := wri area d9
  have e2 := wr8 d8
  clear hq he hai d7 d8 d9 hat hm hL
  go_enter Try.func32, Try.ntmps32
  go_upto_region 10 with (go_at_call 33; (refine (place_2 _).mono ?_); rintro e w1 ⟨rfl, rfl⟩)
  go_upto_region 11 with (first | refine wpList_load_mid rfl 64 _ rfl _ _ rfl [.slice (some ⟨P, 0, none⟩) np pc, .int .i64 (a : Int), .int .i64 (x : Int)] _ hr Try.underlying64 rfl size64 ?_ | refine wpList_stnew rfl 64 _ _ rfl rfl [.slice (some ⟨P, 0, none⟩) np pc, .int .i64 (a : Int), .int .i64 (x : Int)] rfl rfl size64 rfl one3 ?_)
  obtain ⟨w4, hw4⟩ : ∃ V, V = w.alloc (.cells ([.slice (some ⟨P, 0, none⟩) np pc, .int .i64 (a : Int), .int .i64 (x : Int)] : List Value).toArray 64) := ⟨_, rfl⟩
  have k4 : w4.heap[w.heap.size]? = some (.cells #[.slice (some ⟨P, 0, none⟩) np pc, .int .i64 (a : Int), .int .i64 (x : Int)] 64 (0, 0)) := by rw [hw4]; exact heap_alloc_new _ _
  have x4 : Ext w w4 := by rw [hw4]; exact (Ext.refl _).alloc _
  rw [← hw4]
  clear hw4
  have p4 := cell_ext x4 hP
  obtain ⟨m0, m1, m2⟩ := cells3 k4
  clear k0 k1 hr
  have hb : (((x : Nat) : Int) != 0) = may := by rw [hmay]; exact bne_cast x
  clear hmay
  go_quiet (fail)
  obtain ⟨w5, hWq⟩ : ∃ z : World, z = World.drewN w4 nq := ⟨_, rfl⟩
  rw [← hWq]
  have xw5 : Ext w4 w5 := by rw [hWq]; exact (Ext.refl _).drewN _
  clear hWq
  go_wp2
  go_ret3
  exact ⟨by simp [← hb], x4.trans xw5⟩
end Go.Proofs.Ytjgmnbfadnlikaa
