import Derived.Test.YtkagdklnfljkjaaF
namespace Go.Proofs.Ytkagdklnfljkjaa
open Go.RowKit
theorem el40 : Elem Try.prog 40 23 1 8 (.int .u64 0) := Elem.mk' Try.underlying40 (by kernel_rfl) rfl (by omega)
theorem el41 : Elem Try.prog 41 3 1 8 (.int .i64 0) := Elem.mk' Try.underlying41 (by kernel_rfl) rfl (by omega)
def kOfW (x : Int) : Nat := if x % 4 = 0 then 1 else if x % 4 = 1 then 2 else if x % 4 = 2 then 4 else 8
theorem kOfW_ok (x : Int) (h0 : 0 ≤ x) (h1 : x < 256) : isW (kOfW x) = true ∧ wrap64 (2 ^ (x % 4).toNat) = (kOfW x : Int) := by
  have : x % 4 = 0 ∨ x % 4 = 1 ∨ x % 4 = 2 ∨ x % 4 = 3 := by omega
  rcases this with h | h | h | h <;> simp [kOfW, h, isW, wrap64]
theorem kOfW_isW (x : Int) : isW (kOfW x) = true := by unfold kOfW; split <;> (try split) <;> (try split) <;> rfl
def kw (ws : List Int) (m : Nat) (j : Nat) : Nat := if j < m then kOfW (ws.getD j 0) else 1
theorem kw_isW (ws : List Int) (m j : Nat) : isW (kw ws m j) = true := by
  unfold kw; split
  · exact kOfW_isW _
  · rfl
theorem isW_bd {k : Nat} (h : isW k = true) : 1 ≤ k ∧ k ≤ 8 := by rw [isW_iff] at h; omega
def bytesTo (xs : List Int) (kk : Nat → Nat) (big : Bool) : Nat → List Int
  | 0 => []
  | i + 1 => bytesTo xs kk big i ++ putB (xs.getD i 0) (kk i) big
def totTo (kk : Nat → Nat) : Nat → Nat
  | 0 => 0
  | i + 1 => totTo kk i + kk i
theorem bytesTo_len (xs : List Int) (kk : Nat → Nat) (big : Bool) : ∀ i, (bytesTo xs kk big i).length = totTo kk i
  | 0 => rfl
  | i + 1 => by simp [bytesTo, totTo, bytesTo_len xs kk big i, putB_len]
theorem totTo_le (kk : Nat → Nat) (h : ∀ j, kk j ≤ 8) : ∀ i, totTo kk i ≤ 8 * i
  | 0 => by simp [totTo]
  | i + 1 => by have := totTo_le kk h i; have := h i; simp only [totTo]; omega
theorem bytesTo_drop (xs : List Int) (kk : Nat → Nat) (big : Bool) (i : Nat) : ∀ d, ∃ rest, (bytesTo xs kk big (i + 1 + d)).drop (totTo kk i) = putB (xs.getD i 0) (kk i) big ++ rest
  | 0 => ⟨[], by rw [Nat.add_zero, bytesTo, List.drop_left' (bytesTo_len _ _ _ _), List.append_nil]⟩
  | d + 1 => by
    obtain ⟨r, hr⟩ := bytesTo_drop xs kk big i d
    refine ⟨r ++ putB (xs.getD (i + 1 + d) 0) (kk (i + 1 + d)) big, ?_⟩
    have hle : totTo kk i ≤ (bytesTo xs kk big (i + 1 + d)).length := by
      have := congrArg List.length hr
      rw [List.length_drop, List.length_append, putB_len] at this
      rw [bytesTo_len] at this ⊢
      have mono : ∀ a b, totTo kk a ≤ totTo kk (a + b) := fun a b => by
        induction b with
        | zero => exact Nat.le_refl _
        | succ b ih => rw [← Nat.add_assoc, totTo]; omega
      have := mono i (1 + d)
      rw [← Nat.add_assoc] at this
      exact this
    rw [← Nat.add_assoc, bytesTo, List.drop_append_of_le_length hle, hr, List.append_assoc]
def wantL (xs : List Int) (kk : Nat → Nat) (i : Nat) : List Value := (List.range i).map fun j => .int .u64 (xs.getD j 0 % (2 * half (kk j)))
def wideL (kk : Nat → Nat) (i : Nat) : List Value := (List.range i).map fun j => .int .i64 (kk j)
theorem wantL_s (xs : List Int) (kk : Nat → Nat) (i : Nat) : wantL xs kk (i + 1) = wantL xs kk i ++ [.int .u64 (xs.getD i 0 % (2 * half (kk i)))] := by simp [wantL, List.range_succ]
theorem wideL_s (kk : Nat → Nat) (i : Nat) : wideL kk (i + 1) = wideL kk i ++ [.int .i64 (kk i)] := by simp [wideL, List.range_succ]

theorem ne3 : (3 : TypeId) ≠ 23 := by decide
set_option maxRecDepth 100000 in
theorem NumCuts_law (w : World) (A : Option Addr) (n c : Nat) (xs : List Int) (hr : RdI .u64 w A n xs) (hnc : n ≤ c) (hc : c ≤ maxLen) (B : Option Addr) (m d : Nat) (ws : List Int) (hs : Rd w B m ws) (hmd : m ≤ d) (hd : d ≤ maxLen) (big : Bool) :
    Calls Try.prog 8 #[.slice A n c, .slice B m d, .bool big] w fun e w' => e = .returned (.bool true) ∧ Ext w w' := by
  have HD : Hid (d ≤ maxLen) := hd
  have hmx : m ≤ 9223372036854775807 := by simp only [maxLen] at hd; omega
  have hnx : n ≤ 9223372036854775807 := by simp only [maxLen] at hc; omega
  clear hd hc
  obtain ⟨kk, hkk⟩ : ∃ kk, kk = kw ws m := ⟨_, rfl⟩
  have kW : ∀ j, isW (kk j) = true := fun j => by rw [hkk]; exact kw_isW _ _ _
  have KW := Lib.hid kW
  have KB := Lib.hid (totTo_le kk fun j => (isW_bd (kW j)).2)
  clear kW
  have HK := Lib.hid hkk; clear hkk
  obtain ⟨L, hL⟩ : ∃ L : Nat, L = min n 5 := ⟨_, rfl⟩
  have hL5 : L ≤ 5 := by omega
  have hLn : L ≤ n := by omega
  have emin : (if (5:Int) < n then 5 else n : Int) = L := by split <;> omega
  have HL := Lib.hid hL; clear hL
  go_enter Try.func8, Try.ntmps8
  go_wp2_with (first
    | (go_at_call 14; (with_reducible refine (shown_any _).mono ?_); rintro e w5 ⟨rfl, x5⟩))
  clear emin
  go_loopw [8, 9, 10, 31] (fun b wt wd i wr => ∃ j : Nat, j ≤ L ∧ i = .int .i64 j ∧ (∃ A' c', b = .slice A' (totTo kk j) c' ∧ totTo kk j ≤ c' ∧ Rd wr A' (totTo kk j) (bytesTo xs kk big j)) ∧
      wr.ownsRow w5.heap.size 23 1 wt j (wantL xs kk j) ∧ wr.ownsRow w5.heap.size 3 1 wd j (wideL kk j) ∧ Ext w5 wr) (fun _ _ _ i _ => L - (intOf i).toNat)
  case atStart => exact ⟨0, by omega, rfl, ⟨none, 0, rfl, by simp [totTo], Rd.nil⟩, by simpa [wantL] using World.ownsRow_nil _ _ _ _, by simpa [wideL] using World.ownsRow_nil _ _ _ _, Ext.refl _⟩
  case round =>
    obtain ⟨j, hj, rfl, ⟨A', c', rfl, hc', hb⟩, howt, howd, x6⟩ := hrel
    have hT := KB.out j
    by_cases hlt : (j : Int) < L
    · have j0 : (0 : Int) ≤ j := by omega
      have jn : (j : Int) < n := by omega
      obtain ⟨bb, off, u, rfl, _, hu, hcell⟩ := (hr.ext (x5.trans x6)).shows.cell (k := j) (by omega)
      have hxl := hr.len
      have hux : u = .int .u64 (xs.getD j 0) := by
        simp [List.getElem?_eq_getElem (show j < xs.length by omega)] at hu
        simp [List.getD, List.getElem?_eq_getElem (show j < xs.length by omega), ← hu]
      subst hux
      have hxw := hr.fits (xs.getD j 0) (by simp [List.getD, List.getElem?_eq_getElem (show j < xs.length by omega)])
      obtain ⟨x0, x1⟩ := wf_u64 hxw
      clear hxw hu
      have ham := and_mask (xs.getD j 0) (kk j) (KW.out j) x0 x1
      have ew := Lib.hid (wantL_s xs kk j)
      have ed := Lib.hid (wideL_s kk j)
      have eb : Hid (bytesTo xs kk big (j + 1) = bytesTo xs kk big j ++ putB (xs.getD j 0) (kk j) big) := rfl
      have et : Hid (totTo kk (j + 1) = totTo kk j + kk j) := rfl
      obtain ⟨x, hx⟩ : ∃ x, x = xs.getD j 0 := ⟨_, rfl⟩
      rw [← hx] at hcell x0 x1 ham ew eb
      have X1 : Hid (x < 2 ^ 64) := x1; clear x1 hx
      obtain ⟨k, hk⟩ : ∃ k, k = kk j := ⟨_, rfl⟩
      rw [← hk] at ham ew ed eb et
      have hkW : isW k = true := by rw [hk]; exact KW.out j
      have hk18 := isW_bd hkW
      have HKj := Lib.hid hk; clear hk
      by_cases hjm : (j : Int) < m
      · obtain ⟨b2, o2, rfl, _, hc2⟩ := (hs.ext (x5.trans x6)).cell (k := j) (by omega)
        obtain ⟨y0, y1⟩ := hs.byts.getD j
        have eK : wrap64 (2 ^ (ws.getD j 0 % 4).toNat) = (k : Int) := by
          rw [HKj.out, HK.out]; unfold kw; rw [if_pos (by omega)]; exact (kOfW_ok _ y0 y1).2
        generalize ws.getD j 0 = y at *
        go_wp2_with (first
          | (go_at_call 9; (with_reducible refine (put_anyF _ _ _ _ _ k big _ hb (by omega) hkW x0 X1.out).mono ?_); rintro e w1 ⟨A1, c1, rfl, l1, l2, x7, r1, f1⟩)
          | (go_at_call 19; (with_reducible refine (mask_any _ _ hkW).mono ?_); rintro e w' ⟨rfl, rfl⟩)
          | (at_builtin; refine wpList_app el41 rfl _ _ rfl (howd2.alloc _) rfl (Shows.new1 _ _ _) rfl (one1 _ _) (le_max (by omega)) (by omega) rfl (x8.alloc _) ?_; intro v9 w9 hown9 x9 hg9 hat9)
          | (at_builtin; refine wpList_app el40 rfl _ _ rfl ((own_ext howt x7).alloc _) rfl (Shows.new1 _ _ _) rfl (one1 _ _) (le_max (by omega)) (by omega) rfl ((x6.trans x7).alloc _) ?_; intro v8 w8 hown8 x8 hg8 hat8; have howd2 := own_kept2 ((own_ext howd x7).alloc _) ((own_ext howt x7).alloc _) ne3 hg8))
        go_roundw
        case rel =>
          have r9 := (((r1.ext ((Ext.refl _).alloc (.cells #[.int .u64 (x % (2 * half k))] 23))).grown hg8 (fun ad e h => by have := (howt.lt ad.block h.symm).2; have := f1 ad e; omega)).ext ((Ext.refl _).alloc (.cells #[.int .i64 k] 3))).grown hg9 (fun ad e h => by have := (howd.lt ad.block h.symm).2; have := f1 ad e; omega)
          have hown8' := own_kept2 (hown8.alloc (.cells #[.int .i64 k] 3)) (howd2.alloc (.cells #[.int .i64 k] 3)) ne3.symm hg9
          exact ⟨j + 1, by omega, by go_num, ⟨A1, c1, by rw [et.out], by rw [et.out]; exact l1, by rw [et.out, eb.out]; exact r9⟩, by rw [ew.out]; exact hown8', by rw [ed.out]; exact hown9, x9⟩
        case measure => simp [intOf]; omega
      · have hk1 : k = 1 := by rw [HKj.out, HK.out]; unfold kw; rw [if_neg (by omega)]
        clear HKj
        subst hk1
        have hk8 : isW 1 = true := hkW
        have ham1 : bits .and .u64 x (2 * half 1 - 1) = x % (2 * half 1) := ham
        clear ham
        have X10 : (x : Int) < 2 ^ 64 := X1.out
        have X11 := Lib.hid X10; clear X10
        go_wp2_with (first
          | (go_at_call 9; (refine (put_anyF _ _ _ _ _ 1 big _ hb (by omega) hkW x0 X11.out).mono ?_); rintro e w1 ⟨A1, c1, rfl, l1, l2, x7, r1, f1⟩)
          | (go_at_call 19; (with_reducible refine (mask_any 1 _ hk8).mono ?_); rintro e w' ⟨rfl, rfl⟩)
          | (at_builtin; refine wpList_app el41 rfl _ _ rfl (howd2.alloc _) rfl (Shows.new1 _ _ _) rfl (one1 _ _) (le_max (by omega)) (by omega) rfl (x8.alloc _) ?_; intro v9 w9 hown9 x9 hg9 hat9)
          | (at_builtin; refine wpList_app el40 rfl _ _ rfl ((own_ext howt x7).alloc _) rfl (Shows.new1 _ _ _) rfl (one1 _ _) (le_max (by omega)) (by omega) rfl ((x6.trans x7).alloc _) ?_; intro v8 w8 hown8 x8 hg8 hat8; have howd2 := own_kept2 ((own_ext howd x7).alloc _) ((own_ext howt x7).alloc _) ne3 hg8))
        go_roundw
        case rel =>
          have r9 := (((r1.ext ((Ext.refl _).alloc (.cells #[.int .u64 (x % (2 * half 1))] 23))).grown hg8 (fun ad e h => by have := (howt.lt ad.block h.symm).2; have := f1 ad e; omega)).ext ((Ext.refl _).alloc (.cells #[.int .i64 1] 3))).grown hg9 (fun ad e h => by have := (howd.lt ad.block h.symm).2; have := f1 ad e; omega)
          have hown8' := own_kept2 (hown8.alloc (.cells #[.int .i64 1] 3)) (howd2.alloc (.cells #[.int .i64 1] 3)) ne3.symm hg9
          exact ⟨j + 1, by omega, by go_num, ⟨A1, c1, by rw [et.out], by rw [et.out]; exact l1, by rw [et.out, eb.out]; exact r9⟩, by rw [ew.out]; exact hown8', by rw [ed.out]; exact hown9, x9⟩
        case measure => simp [intOf]; omega
    · obtain rfl : j = L := by omega
      clear hlt hj
      obtain ⟨At, ct, rfl, lt1, lt2, sht⟩ := own_form howt
      obtain ⟨Ad, cd, rfl, ld1, ld2, shd⟩ := own_form howd
      clear howt howd
      go_wp2_with fail
      go_loopw [8, 71] (fun b i wz => ∃ g : Nat, g ≤ j ∧ i = .int .i64 g ∧ (∃ A' c', b = .slice A' (totTo kk j - totTo kk g) c' ∧ totTo kk j - totTo kk g ≤ c' ∧ Rd wz A' (totTo kk j - totTo kk g) ((bytesTo xs kk big j).drop (totTo kk g))) ∧ Ext wr wz) (fun _ i _ => j - (intOf i).toNat)
      case atStart => exact ⟨0, by omega, rfl, ⟨A', c', rfl, hc', by simpa [totTo] using hb⟩, Ext.refl _⟩
      case round =>
        obtain ⟨g, hg, rfl, ⟨A2, c2, rfl, hc2, hb2⟩, x7⟩ := hrel
        by_cases hlt : (g : Int) < j
        · have g0 : (0 : Int) ≤ g := by omega
          have hj40 := hT
          obtain ⟨bt, ot, ut, rfl, _, hut, hct⟩ := (sht.ext x7).cell (k := g) (by omega)
          obtain ⟨bd, od, ud, rfl, _, hud, hcd⟩ := (shd.ext x7).cell (k := g) (by omega)
          obtain rfl : ut = .int .u64 (xs.getD g 0 % (2 * half (kk g))) := by simpa [wantL, show g < j by omega] using hut.symm
          obtain rfl : ud = .int .i64 (kk g) := by simpa [wideL, show g < j by omega] using hud.symm
          clear hut hud
          obtain ⟨rest, hrest⟩ := bytesTo_drop xs kk big g (j - (g + 1))
          rw [show g + 1 + (j - (g + 1)) = j by omega] at hrest
          have hkW := KW.out g
          have hk18 := isW_bd hkW
          have hlen : totTo kk j - totTo kk g = kk g + rest.length := by
            have := congrArg List.length hrest
            rwa [List.length_drop, List.length_append, putB_len, bytesTo_len] at this
          have hxg := hr.fits (xs.getD g 0) (by have := hr.len; simp [List.getD, List.getElem?_eq_getElem (show g < xs.length by omega)])
          obtain ⟨x0, x1⟩ := wf_u64 hxg
          clear hxg
          have hbk := Lib.hid (back_eq (xs.getD g 0) (kk g) big hkW x0 x1)
          have X1 := Lib.hid x1; clear x1
          have ednext : totTo kk (g + 1) = totTo kk g + kk g := rfl
          have hdd : (bytesTo xs kk big j).drop (totTo kk (g + 1)) = ((bytesTo xs kk big j).drop (totTo kk g)).drop (kk g) := by rw [List.drop_drop, ednext]
          have HDD := Lib.hid hdd; clear hdd
          have EDN := Lib.hid ednext; clear ednext
          obtain ⟨bz, hbz⟩ : ∃ l, l = (bytesTo xs kk big j).drop (totTo kk g) := ⟨_, rfl⟩
          rw [← hbz] at hb2 hrest
          rw [← hbz] at HDD
          clear hbz
          obtain ⟨T, hT2⟩ : ∃ T, T = totTo kk j - totTo kk g := ⟨_, rfl⟩
          rw [← hT2] at hlen hc2 hb2 ⊢
          have t2 : T ≤ 40 := by omega
          have HT2 := Lib.hid hT2; clear hT2
          obtain ⟨K, hK⟩ : ∃ K, K = kk g := ⟨_, rfl⟩
          obtain ⟨X, hX⟩ : ∃ X, X = xs.getD g 0 := ⟨_, rfl⟩
          rw [← hK] at hcd hct hkW hk18 hlen hbk hrest
          rw [← hX] at hct hbk hrest
          rw [← hK] at HDD EDN
          clear hX hK X1 x0
          have HR := Lib.hid hrest; clear hrest
          have t1 : K ≤ T := by omega
          have hK1 : ((K : Int) - 1) = ((K - 1 : Nat) : Int) := by omega
          have k1 : (1 : Int) ≤ K := by omega
          clear hlen
          go_wp2_with fail
          go_quiet ((go_at_call 12; exact quiet_l (take_no5 _ _ _ _ _ _ hkW (by omega))))
          have hcell1 : wr.cell? ⟨bd, od + g, none⟩ = some (.int .i64 K) := hcd
          have htk : takeTo bz K big K = X % (2 * half K) := by rw [HR.out, takeTo_app _ _ _ _ _ (by rw [putB_len]; exact Nat.le_refl _)]; exact hbk.out
          have HTK := Lib.hid htk; clear htk
          go_wp2_with (go_at_call 12; (with_reducible refine (take_any _ _ _ _ K big _ (hb2.ext (Ext.of_drewN _ _)) (by omega) hc2 hkW (by omega)).mono ?_); rintro e w9 ⟨A9, c9, he, l9, l10, x9, r9⟩; rw [HTK.out] at he; subst he)
          go_roundw
          case rel =>
            have e1 : T - K = totTo kk j - totTo kk (g + 1) := by have := HT2.out; have := EDN.out; omega
            exact ⟨g + 1, by omega, by go_num, ⟨A9, c9, by rw [← e1], by rw [← e1]; exact l9, by rw [← e1, HDD.out]; exact r9⟩, x7.trans ((Ext.of_drewN _ _).trans x9)⟩
          case measure => simp [intOf]; omega
        · obtain rfl : g = j := by omega
          rw [Nat.sub_self]
          go_wp2
          go_ret
          exact ⟨rfl, x5.trans (x6.trans x7)⟩
end Go.Proofs.Ytkagdklnfljkjaa
