import Derived.Test.YtjdabmadpclbaaaG
import Derived.Lib.SliceRun
set_option linter.unusedVariables false
set_option linter.unusedSimpArgs false
namespace Go.Proofs.Ytjdabmadpclbaaa
open Go.RowKit
theorem size4 : (Try.prog.info? 4).map (·.size) = some 1 := by kernel_rfl
theorem over_any {w : World} {g : Nat} {s : BSt} {F : Nat → Prop} (h : BxC w 71 g s F) : Calls Try.prog 22 #[.pointer (some ⟨g, 0, none⟩)] w fun e w' => e = .returned (.bool s.lost) ∧ BxPost w 71 g { s with lost := false } F w' := by
  obtain ⟨_, fA, fc, tA, tc, rA, rc, h⟩ := h
  have HH := Lib.hid h
  have K := h.row
  obtain ⟨f0, f1, f2, f3⟩ := cells4 K
  have z3 := blk_free (i := 3) K
  clear h
  go_enter Try.func22, Try.ntmps22
  go_wp2
  go_ret
  obtain ⟨W, hW, K4, x4⟩ := set_new 3 (.bool false) K
  rw [← hW]
  exact ⟨rfl, bx_set3 (.inl rfl) HH.out false K4 x4⟩
theorem own_slice {w : World} {base : Nat} {e : TypeId} {size : Nat} {v : Value} {n : Nat} {xs : List Value} (h : w.ownsRow base e size v n xs) : ∃ A c, v = .slice A n c := by
  rcases h.2 with ⟨rfl, rfl⟩ | ⟨g, cap, cur, rfl, _⟩
  · exact ⟨_, _, rfl⟩
  · exact ⟨_, _, rfl⟩
theorem clone_fi (A : Option Addr) (n c : Nat) (l : List Fi) (w : World) (hs : Shows w 3 A n (fis l)) (hn : n ≤ 1000) : Calls Try.prog 38 #[.slice A n c] w fun e w' => ∃ A' c', e = .returned (.slice A' n c') ∧ w'.ownsRow w.heap.size 61 3 (.slice A' n c') n (fis l) ∧ Ext w w' := by
  have hnil := fun (W : World) (A : Option Addr) (n c : Nat) => Lib.run_eql_slice_nil W 22 61 A n c 0 0 Try.underlying22
  rcases A with _ | a
  · obtain rfl : n = 0 := by
      rcases Nat.eq_zero_or_pos n with h | h
      · exact h
      · obtain ⟨_, h, _⟩ := hs.2 h; cases h
    have hl := hs.zero
    go_enter Try.func38, Try.ntmps38
    go_wp2
    go_ret
    exact ⟨none, 0, rfl, by rw [hl]; exact World.ownsRow_nil _ _ _ _, Ext.refl _⟩
  · go_enter Try.func38, Try.ntmps38
    go_wp2_with (at_builtin; refine wpList_app el22 rfl _ _ rfl (World.ownsRow_made w #[] 0 (Nat.le_refl _) (by simp) rfl) rfl (hs.ext ((Ext.refl w).alloc _)) rfl (fis_one _) (le_max (by omega)) (by omega) rfl ((Ext.refl w).alloc _) ?_; intro v9 w9 hown9 x9 hg9 hat9)
    go_ret
    simp only [List.nil_append, Nat.zero_add] at hown9
    obtain ⟨A', c', rfl⟩ := own_slice hown9
    exact ⟨A', c', rfl, hown9, x9⟩
theorem new_long (A : Option Addr) (n c : Nat) (w : World) (hn : 8 < n) : Calls Try.prog 26 #[.slice A n c] w fun e w' => e = .returned (.tuple #[.pointer none, .int .i64 3]) ∧ w = w' := by
  go_enter Try.func26, Try.ntmps26
  go_wp2
  go_ret2
  exact ⟨rfl, rfl⟩
def BSt.new (l : List Fi) : BSt := ⟨l, [], [], false⟩
theorem new_any (A : Option Addr) (n c : Nat) (l : List Fi) (w : World) (hs : Shows w 3 A n (fis l)) (hl : n = l.length) (hn : ¬ 8 < n) (hok : ∀ x ∈ l, Fi.ok x) : Calls Try.prog 26 #[.slice A n c] w fun e w' => ∃ g F, e = .returned (.tuple #[.pointer (some ⟨g, 0, none⟩), .int .i64 0]) ∧ BxC w' 71 g (BSt.new l) F ∧ Ext w w' ∧ ∀ k, F k → w.heap.size ≤ k := by
  subst hl
  go_enter Try.func26, Try.ntmps26
  go_wp2_with (go_at_call 38; (refine (clone_fi _ _ _ _ _ hs (by omega)).mono ?_); rintro e w1 ⟨A1, c1, rfl, ow1, x1⟩)
  go_ret2
  obtain ⟨W, hW⟩ : ∃ V, V = w1.alloc (.cells #[.slice A1 l.length c1, .slice none 0 0, .slice none 0 0, .bool false] 71) := ⟨_, rfl⟩
  have K : W.heap[w1.heap.size]? = some (.cells #[.slice A1 l.length c1, .slice none 0 0, .slice none 0 0, .bool false] 71 (0, 0)) := by rw [hW]; exact heap_alloc_new _ _
  have x2 : Ext w1 W := by rw [hW]; exact (Ext.refl _).alloc _
  rw [← hW]
  clear hW
  refine ⟨_, fun k => k = w1.heap.size ∨ Value.ownBlock (.slice A1 l.length c1) = some k, rfl, ⟨.inl rfl, A1, c1, none, 0, none, 0, K, own_base (own_ext ow1 x2) (Nat.zero_le _), World.ownsRow_nil _ _ _ _, World.ownsRow_nil _ _ _ _, .inl rfl, fun b e => .inr e, (fun b e => nomatch e), (fun b e => nomatch e), ?_, ⟨hok, by simp [BSt.new], by simp [BSt.new], by simp [BSt.new]; omega, by simp [BSt.new], by simp [BSt.new]⟩⟩, x1.trans x2, ?_⟩
  · rintro k (rfl | hk)
    · exact blk_lt K
    · exact Nat.lt_of_lt_of_le (own_lt ow1 hk) x2.size
  · rintro k (rfl | hk)
    · exact x1.size
    · exact (ow1.lt k hk).1
def letTo (l : List Fi) (f : Fr) (k : Nat) : Prop := ∀ j x, j < k → l[j]? = some x → fits x f = false
theorem lets_true {l : List Fi} {f : Fr} {k : Nat} {x : Fi} (h : l[k]? = some x) (hf : fits x f = true) : l.any (fits · f) = true := List.any_eq_true.2 ⟨x, List.mem_of_getElem? h, hf⟩
theorem lets_false {l : List Fi} {f : Fr} (h : letTo l f l.length) : l.any (fits · f) = false := by
  rw [List.any_eq_false]
  intro x hx
  obtain ⟨j, hj, rfl⟩ := List.getElem_of_mem hx
  simp [h j _ hj (List.getElem?_eq_getElem hj)]
theorem fr_01 {w : World} {g : Nat} {f : Fr} (h : w.rangeAt g 0 f.vals) : w.cell? ⟨g, 0, none⟩ = some (.int .u32 f.id) ∧ w.cell? ⟨g, 1, none⟩ = some (.bool f.ext) := ⟨h 0 _ rfl, h 1 _ rfl⟩
set_option maxHeartbeats 4000000 in
theorem lets_any {w : World} {g : Nat} {s : BSt} {F : Nat → Prop} (h : BxC w 71 g s F) (f : Fr) : Calls Try.prog 43 #[.pointer (some ⟨g, 0, none⟩), .agg f.vals.toArray] w fun e w' => e = .returned (.bool (s.lets f)) ∧ Ext w w' := by
  obtain ⟨_, fA, fc, tA, tc, rA, rc, h⟩ := h
  have K := h.row
  have hs := Shows.of_own h.fil
  have hl8 := h.ok.nf
  clear h
  unfold BSt.lets
  generalize hfl : s.fl = l at *
  obtain ⟨w0, hw0⟩ : ∃ V, V = w.alloc (.cells f.vals.toArray 34) := ⟨_, rfl⟩
  have k0 : w0.heap[w.heap.size]? = some (.cells f.vals.toArray 34 (0, 0)) := by rw [hw0]; exact heap_alloc_new _ _
  have x0 : Ext w w0 := by rw [hw0]; exact (Ext.refl _).alloc _
  obtain ⟨f0, f1, f2, f3⟩ := cells4 ((x0.block _ (blk_lt K)).trans K)
  go_enter Try.func43, Try.ntmps43
  rw [hw0] at f0
  go_wp2
  go_loopw [12] (fun i wr => ∃ k : Nat, i = .int .i64 k ∧ k ≤ l.length ∧ letTo l f k ∧ Ext (w.alloc (.cells f.vals.toArray 34)) wr) (fun i _ => l.length - (intOf i).toNat)
  case atStart => exact ⟨0, rfl, by omega, fun j x h => by omega, Ext.refl _⟩
  case round =>
    obtain ⟨k, rfl, hk, hto, x⟩ := hrel
    by_cases hlt : k < l.length
    · have hx := List.getElem?_eq_getElem hlt
      generalize l[k] = y at hx
      rw [← hw0] at x
      obtain ⟨b, o, rfl, hb, hr⟩ := Shows.fi (hs.ext (x0.trans x)) rfl hx
      obtain ⟨g0, g1⟩ := fr_01 (frAt ((x.block _ (blk_lt k0)).trans k0))
      have hsz := blk_lt ((x.block _ (blk_lt k0)).trans k0)
      have TO := Lib.hid hto
      have HX := Lib.hid hx
      clear hto hx f0 f1 f2 f3
      have hkl : (k : Int) < l.length := by omega
      obtain ⟨m, i, e⟩ := y
      by_cases he : e = f.ext
      · subst he
        by_cases hz : bits .and .u32 (bits .xor .u32 i f.id) m = 0
        · have bz : (bits .and .u32 (bits .xor .u32 i f.id) m == 0) = true := by simpa using hz
          have hf : fits ⟨m, i, f.ext⟩ f = true := by simp [fits, hz]
          have FIN := Lib.hid (lets_true HX.out hf)
          clear hz hf
          go_upto_region 4 with (first | refine wpList_load_mid rfl 61 _ rfl _ _ rfl [.int .u32 m, .int .u32 i, .bool f.ext] _ hr Try.underlying61 rfl size53 ?_ | refine wpList_stnew rfl 61 _ _ rfl rfl [.int .u32 m, .int .u32 i, .bool f.ext] rfl rfl size53 rfl (fi_one ⟨m, i, f.ext⟩) ?_)
          go_wp2
          go_ret
          exact ⟨by rw [FIN.out]; rfl, (x0.trans x).alloc _⟩
        · have bz : (bits .and .u32 (bits .xor .u32 i f.id) m == 0) = false := by simpa using hz
          have hf : fits ⟨m, i, f.ext⟩ f = false := by simp [fits, hz]
          have HF := Lib.hid hf
          clear hz hf
          go_upto_region 4 with (first | refine wpList_load_mid rfl 61 _ rfl _ _ rfl [.int .u32 m, .int .u32 i, .bool f.ext] _ hr Try.underlying61 rfl size53 ?_ | refine wpList_stnew rfl 61 _ _ rfl rfl [.int .u32 m, .int .u32 i, .bool f.ext] rfl rfl size53 rfl (fi_one ⟨m, i, f.ext⟩) ?_)
          go_wp2
          go_roundw
          case rel => exact ⟨k + 1, by go_num, by omega, fun j y hj hy => (by
            rcases Nat.lt_or_ge j k with g | g
            · exact TO.out j y g hy
            · obtain rfl : j = k := by omega
              rw [HX.out] at hy; injection hy with hy; subst hy; exact HF.out), by rw [hw0] at x; exact x.alloc _⟩
          case measure => simp [intOf]; omega
      · have be : (e == f.ext) = false := by simpa using he
        have hf : fits ⟨m, i, e⟩ f = false := by simp [fits, he]
        have HF := Lib.hid hf
        clear he hf
        go_upto_region 4 with (first | refine wpList_load_mid rfl 61 _ rfl _ _ rfl [.int .u32 m, .int .u32 i, .bool e] _ hr Try.underlying61 rfl size53 ?_ | refine wpList_stnew rfl 61 _ _ rfl rfl [.int .u32 m, .int .u32 i, .bool e] rfl rfl size53 rfl (fi_one ⟨m, i, e⟩) ?_)
        go_wp2
        go_roundw
        case rel => exact ⟨k + 1, by go_num, by omega, fun j y hj hy => (by
          rcases Nat.lt_or_ge j k with g | g
          · exact TO.out j y g hy
          · obtain rfl : j = k := by omega
            rw [HX.out] at hy; injection hy with hy; subst hy; exact HF.out), by rw [hw0] at x; exact x.alloc _⟩
        case measure => simp [intOf]; omega
    · obtain rfl : k = l.length := by omega
      go_wp2
      go_ret
      exact ⟨by rw [lets_false hto]; rfl, by rw [← hw0] at x; exact x0.trans x⟩
end Go.Proofs.Ytjdabmadpclbaaa
