import Derived.Test.YtjfdcgpnjjhhoaaN
set_option linter.unusedVariables false
namespace Go.Proofs.Ytjfdcgpnjjhhoaa
open Go.RowKit
set_option maxRecDepth 100000 in
set_option maxHeartbeats 8000000 in
theorem SumParts_law (w : World) (A : Option Addr) (n c : Nat) (bs : List Int) (B : Option Addr) (m d : Nat) (cs : List Int) (rdA : Rd w A n bs) (leA : n ≤ c) (cmA : c ≤ maxLen) (rdB : Rd w B m cs) (leB : m ≤ d) (cmB : d ≤ maxLen) :
    Calls Try.prog 8 #[.slice A n c, .slice B m d] w fun e w' => e = .returned (.bool true) ∧ Ext w w' := by
  have FA := fun W => Lib.hid (few_any A n c W leA cmA)
  have FB := fun W => Lib.hid (few_any B m d W leB cmB)
  have rx := rdA.take (k := min n 300) (by omega)
  have ry := rdB.take (k := min m 300) (by omega)
  have ha : min n 300 ≤ 300 ∧ min n 300 ≤ c := by omega
  have hb : min m 300 ≤ 300 ∧ min m 300 ≤ d := by omega
  clear rdA rdB
  generalize min n 300 = p at *
  generalize min m 300 = q at *
  generalize bs.take p = X at *
  generalize cs.take q = Y at *
  obtain ⟨hp3, hpc⟩ := ha
  obtain ⟨hq3, hqd⟩ := hb
  obtain ⟨N, a, b, M, L, Z, ⟨n0, n1⟩, ea, eb, hab, V1, V2, V3, V4, V5, V6, hfin⟩ := part_facts rx.byts ry.byts true
  have HV1 := Lib.hid V1
  have HV2 := Lib.hid V2
  have HV3 := Lib.hid V3
  have HV4 := Lib.hid V4
  have HV5 := Lib.hid V5
  have HV6 := Lib.hid V6
  have HAB := Lib.hid hab
  have HAB2 : Hid (Byts [a, b]) := fun z hz => hab z (List.mem_append_left _ hz)
  have R2 : ∀ W : World, Hid (Shows (W.alloc (.cells #[.int .u8 a, .int .u8 b] 5)) 1 (some ⟨W.heap.size, 0, none⟩) 2 (u8s [a, b])) := fun W => Shows.new W [.int .u8 a, .int .u8 b] 5
  have b01 : b % 256 = b := by omega
  have LX := Lib.hid rx.len
  have LY := Lib.hid ry.len
  have b0 : Byts [0, 0] := by intro b hb; simp at hb; omega
  have HB0 := Lib.hid b0
  have hw7 : Hid (wayK 7 = some y7) := rfl
  have hmod : ∀ k : Nat, k % y7.word = 0 := fun k => Nat.mod_one k
  have HMOD := Lib.hid hmod
  have hshr : N / 2 ^ 8 = b := eb
  clear V1 V2 V3 V4 V5 V6 hab b0 hmod
  go_enter Try.func8, Try.ntmps8
  go_upto_region 2 with (go_at_call 12; (refine (shown_any _).mono ?_); rintro e w1 ⟨rfl, x1⟩)
  go_upto_region 3 with (first
    | (go_at_call 10; (refine ((FA _).out).mono ?_); rintro e w2 ⟨rfl, rfl⟩)
    | (go_at_call 10; (refine ((FB _).out).mono ?_); rintro e w3 ⟨rfl, rfl⟩))
  go_upto_region 4 with (go_at_call 9; (refine (of_any _ _ _ _ _ _ _ (rx.ext x1) (by omega) hpc cmA _ hw7.out (HMOD.out _)).mono ?_); rintro e w4 ⟨rfl, x4⟩; rw [HV1.out])
  have xx4 := x1.trans x4
  have rx4 := rx.ext xx4
  have ry4 := ry.ext xx4
  go_upto_region 5 with (first
    | (at_builtin; refine wpList_app el22 rfl _ _ rfl (World.ownsRow_lit _ #[.int .u8 a, .int .u8 b] 2 (Nat.le_refl _) (le_max (by omega)) rfl) rfl ((ry4.ext ((Ext.refl _).alloc _)).shows) rfl (u8s_one _) (le_max (by omega)) (by omega) rfl ((Ext.refl _).alloc _) ?_; intro v5 w5 own5 x5 hg5 hat5; clear hg5 hat5; obtain ⟨A5, c5, rfl, l5, m5, r5⟩ := own_rd (bs := [a, b] ++ Y) (by rw [u8s_append]; exact own5) HAB.out)
    | (go_at_call 9; (refine (of_any _ _ _ _ _ _ _ r5 (by omega) l5 m5 _ hw7.out (HMOD.out _)).mono ?_); rintro e w6 ⟨rfl, x6⟩; rw [HV2.out]))
  have y6 := x5.trans x6
  have rx6 := rx4.ext y6
  have ry6 := ry4.ext y6
  clear rx4 ry4
  go_upto_region 6 with (first
    | (at_builtin; refine wpList_app el22 rfl _ _ rfl (World.ownsRow_lit _ #[] 0 (Nat.le_refl _) (by simp) rfl) rfl ((rx6.ext ((Ext.refl _).alloc _)).shows) rfl (u8s_one _) (le_max (by omega)) (by omega) rfl ((Ext.refl _).alloc _) ?_; intro v7 w7 own7 x7 hg7 hat7; clear hg7 hat7; rw [Nat.zero_add] at own7)
    | (at_builtin; refine wpList_app el22 rfl _ _ rfl (World.ownsRow_lit _ #[.int .u8 0, .int .u8 0] 2 (Nat.le_refl _) (le_max (by omega)) rfl) rfl (((ry6.ext x7).ext ((Ext.refl _).alloc _)).shows) rfl (u8s_one _) (le_max (by omega)) (by omega) rfl ((Ext.refl _).alloc _) ?_; intro v8 w8 own8 x8 hg8 hat8; clear hg8 hat8; obtain ⟨A8, c8, rfl, l8, m8, r8⟩ := own_rd (bs := [0, 0] ++ Y) (by rw [u8s_append]; exact own8) (HB0.out.append ry6.byts); have own7b := own_ext own7 x8)
    | (at_builtin; refine wpList_app el22 rfl _ _ rfl own7b rfl r8.shows rfl (u8s_one _) (le_max (by omega)) (by omega) rfl (x7.trans x8) ?_; intro v9 w9 own9 x9 hg9 hat9; clear hg9 hat9; obtain ⟨A9, c9, rfl, l9, m9, r9⟩ := own_rd (bs := X ++ ([0, 0] ++ Y)) (by rw [u8s_append]; exact own9) (rx6.byts.append (HB0.out.append ry6.byts)))
    | (go_at_call 9; (refine (of_any _ _ _ _ _ _ _ r9 (by omega) l9 m9 _ hw7.out (HMOD.out _)).mono ?_); rintro e w10 ⟨rfl, x10⟩; rw [HV3.out]))
  have y10 := x9.trans x10
  have rx10 := rx6.ext y10
  have ry10 := ry6.ext y10
  clear rx6 ry6 own7b own7 own8 own9 own5
  go_upto_region 7 with (first
    | (at_builtin; refine wpList_app el22 rfl _ _ rfl (World.ownsRow_lit _ #[] 0 (Nat.le_refl _) (by simp) rfl) rfl ((rx10.ext ((Ext.refl _).alloc _)).shows) rfl (u8s_one _) (le_max (by omega)) (by omega) rfl ((Ext.refl _).alloc _) ?_; intro v11 w11 own11 x11 hg11 hat11; clear hg11 hat11; rw [Nat.zero_add] at own11)
    | (at_builtin; refine wpList_app el22 rfl _ _ rfl (own11.alloc _) rfl ((R2 _).out) rfl (u8s_one _) (le_max (by omega)) (by omega) rfl (x11.alloc _) ?_; intro v12 w12 own12 x12 hg12 hat12; clear hg12 hat12; obtain ⟨A12, c12, rfl, l12, m12, r12⟩ := own_rd (bs := X ++ [a, b]) (by rw [u8s_append]; exact own12) (rx10.byts.append HAB2.out))
    | (go_at_call 9; (refine (of_any _ _ _ _ _ _ _ r12 (by omega) l12 m12 _ hw7.out (HMOD.out _)).mono ?_); rintro e w13 ⟨rfl, x13⟩; rw [HV4.out]))
  have y13 := x12.trans x13
  have ry13 := ry10.ext y13
  clear ry10 rx10 own11 own12
  go_upto_region 8 with (first
    | (at_builtin; refine wpList_app el22 rfl _ _ rfl (World.ownsRow_lit _ #[.int .u8 0, .int .u8 0] 2 (Nat.le_refl _) (le_max (by omega)) rfl) rfl ((ry13.ext ((Ext.refl _).alloc _)).shows) rfl (u8s_one _) (le_max (by omega)) (by omega) rfl ((Ext.refl _).alloc _) ?_; intro v14 w14 own14 x14 hg14 hat14; clear hg14 hat14; obtain ⟨A14, c14, rfl, l14, m14, r14⟩ := own_rd (bs := [0, 0] ++ Y) (by rw [u8s_append]; exact own14) (HB0.out.append ry13.byts))
    | (go_at_call 9; (refine (of_any _ _ _ _ _ _ _ r14 (by omega) l14 m14 _ hw7.out (HMOD.out _)).mono ?_); rintro e w15 ⟨rfl, x15⟩; rw [HV5.out]))
  go_upto_region 9 with (go_at_call 9; (refine (of_any _ _ _ _ _ _ _ (ry13.ext (x14.trans x15)) (by omega) hqd cmB _ hw7.out (HMOD.out _)).mono ?_); rintro e w16 ⟨rfl, x16⟩; rw [HV6.out])
  have xx := xx4.trans (y6.trans (y10.trans (y13.trans ((x14.trans x15).trans x16))))
  clear own14
  rcases hfin with hN | ⟨hN, rfl, rfl⟩
  · have hNb : (N != 0) = true := by simpa using hN
    clear hN
    go_wp2
    go_ret
    exact ⟨by simp, xx⟩
  · have hNb : (N != 0) = false := by rw [hN]; rfl
    clear hN
    go_wp2
    go_ret
    exact ⟨by simp, xx⟩
end Go.Proofs.Ytjfdcgpnjjhhoaa
