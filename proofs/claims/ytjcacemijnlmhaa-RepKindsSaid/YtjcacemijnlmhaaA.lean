import Derived.Test.YtjcacemijnlmhaaBase
set_option linter.unusedVariables false
namespace Go.Proofs.Ytjcacemijnlmhaa
open Go.RowKit
theorem el22 : Elem Try.prog 22 5 1 1 (.int .u8 0) := Elem.mk' Try.underlying22 (by kernel_rfl) rfl (by omega)
theorem str {w : World} {A : Option Addr} {n c : Nat} {bs : List Int} (hr : Rd w A n bs) : (convert 22 9 (.slice A n c)).run Try.prog w = .ok (.string (strOfNums bs)) w := run_str Try.underlying22 Try.underlying5 Try.underlying9 hr
def mayR (kind code : Int) (n : Nat) : Bool := (kind == 1 && code == 0 && decide (n ≤ 7)) || (kind == 2 && decide (n = 0)) || (kind == 3 && decide (n ≤ 6)) || (kind == 4 && decide (code ≤ 191) && decide (n ≤ 7))
def headR (kind code : Int) : List Int := if kind = 1 then [255] else if kind = 2 then [254, code] else if kind = 3 then [253, code] else [code]
def putR (kind code : Int) (bs : List Int) : List Int := headR kind code ++ bs
theorem cells3 {w : World} {g : Nat} {t : TypeId} {fr : Nat × Nat} {x0 x1 x2 : Value} (h : w.heap[g]? = some (.cells #[x0, x1, x2] t fr)) :
    w.cell? ⟨g, 0, none⟩ = some x0 ∧ w.cell? ⟨g, 1, none⟩ = some x1 ∧ w.cell? ⟨g, 2, none⟩ = some x2 := by
  refine ⟨?_, ?_, ?_⟩ <;> (rw [cell_of_row _ _ _ _ _ _ h]; rfl)
theorem kinds (kind : Int) : kind = 1 ∨ kind = 2 ∨ kind = 3 ∨ kind = 4 ∨ ((kind == 1) = false ∧ (kind == 2) = false ∧ (kind == 3) = false ∧ (kind == 4) = false) := by
  by_cases h1 : kind = 1
  · exact .inl h1
  by_cases h2 : kind = 2
  · exact .inr (.inl h2)
  by_cases h3 : kind = 3
  · exact .inr (.inr (.inl h3))
  by_cases h4 : kind = 4
  · exact .inr (.inr (.inr (.inl h4)))
  · exact .inr (.inr (.inr (.inr (by simp [h1, h2, h3, h4]))))
theorem may_any (kind code : Int) (A : Option Addr) (n c : Nat) (w : World) :
    Calls Try.prog 17 #[.agg #[.int .u8 kind, .int .u8 code, .slice A n c]] w fun e w' => e = .returned (.bool (mayR kind code n)) ∧ Ext w w' := by
  rcases kinds kind with rfl | rfl | rfl | rfl | ⟨h1, h2, h3, h4⟩
  all_goals
    go_enter Try.func17, Try.ntmps17
    go_wp2
    all_goals try go_quiet (fail)
    all_goals try go_wp2
    all_goals go_ret
    all_goals refine ⟨?_, (by first | exact (Ext.refl _).alloc _ | exact ((Ext.refl _).alloc _).drewN _)⟩
    all_goals simp_all [mayR]
    all_goals first | omega | (rw [Bool.eq_iff_iff]; simp; done) | (rw [Bool.eq_iff_iff]; simp; omega)
theorem few_any (kind code : Int) (A : Option Addr) (n c : Nat) (w : World) (hn : n ≤ c) (hc : c ≤ maxLen) :
    Calls Try.prog 9 #[.agg #[.int .u8 kind, .int .u8 code, .slice A n c]] w fun e w' => e = .returned (.agg #[.int .u8 kind, .int .u8 code, .slice A (min n 20) c]) ∧ Ext w w' := by
  unfold maxLen at hc
  go_enter Try.func9, Try.ntmps9
  go_wp2
  all_goals refine bodyPost_ret (v := .agg #[.int .u8 kind, .int .u8 code, .slice A (min n 20) c]) (by simp [results, Try.results9, go_sem]; try omega) rfl ⟨rfl, ?_⟩
  all_goals exact ((Ext.refl _).alloc _).alloc _
theorem putR_len (kind code : Int) (bs : List Int) : (putR kind code bs).length = (headR kind code).length + bs.length := by simp [putR]
theorem putR_byts (kind code : Int) (bs : List Int) (h0 : 0 ≤ code) (h1 : code < 256) (hb : Byts bs) : Byts (putR kind code bs) := by
  refine Byts.append ?_ hb
  intro b hb
  unfold headR at hb
  split at hb
  · simp at hb; omega
  split at hb
  · simp at hb; omega
  split at hb
  · simp at hb; omega
  · simp at hb; omega
theorem put_no (kind code : Int) (A : Option Addr) (n c : Nat) (w : World) (hm : mayR kind code n = false) :
    Calls Try.prog 8 #[.agg #[.int .u8 kind, .int .u8 code, .slice A n c]] w fun e w' => e = .returned (.tuple #[.slice none 0 0, .int .i64 1]) ∧ Ext w w' := by
  go_enter Try.func8, Try.ntmps8
  go_wp2_with (go_at_call 17; (with_reducible refine (may_any _ _ _ _ _ _).mono ?_); rintro e w1 ⟨rfl, x1⟩)
  go_ret2
  exact ⟨rfl, ((Ext.refl _).alloc _).trans x1⟩
theorem small {kind code : Int} {n : Nat} (h : mayR kind code n = true) : n ≤ 7 := by
  simp [mayR] at h; omega
theorem own_put {w : World} {b : Nat} {v : Value} {m n : Nat} {hd bs : List Int} (h : w.ownsRow b 5 1 v (m + n) (u8s hd ++ u8s bs)) (h1 : hd.length = m) (h2 : bs.length = n) (hb : Byts (hd ++ bs)) :
    ∃ A c, v = .slice A (hd ++ bs).length c ∧ (hd ++ bs).length ≤ c ∧ c ≤ maxLen ∧ Rd w A (hd ++ bs).length (hd ++ bs) := by
  rw [← u8s_append] at h
  have e : (hd ++ bs).length = m + n := by simp [h1, h2]
  rw [← e] at h
  exact own_rd h hb
theorem put_yes (kind code : Int) (A : Option Addr) (n c : Nat) (bs : List Int) (w : World) (hr : Rd w A n bs) (h0 : 0 ≤ code) (h1 : code < 256) (hm : mayR kind code n = true) :
    Calls Try.prog 8 #[.agg #[.int .u8 kind, .int .u8 code, .slice A n c]] w fun e w' => ∃ A' c', e = .returned (.tuple #[.slice A' (putR kind code bs).length c', .int .i64 0]) ∧ (putR kind code bs).length ≤ c' ∧ c' ≤ maxLen ∧ Ext w w' ∧ Rd w' A' (putR kind code bs).length (putR kind code bs) := by
  have hl := hr.len
  have hn7 := small hm
  have HL := Lib.hid hl; clear hl
  have hb := putR_byts kind code bs h0 h1 hr.byts
  rcases kinds kind with rfl | rfl | rfl | rfl | ⟨k1, k2, k3, k4⟩
  · go_enter Try.func8, Try.ntmps8
    go_wp2_with (first
      | (go_at_call 17; (with_reducible refine (may_any _ _ _ _ _ _).mono ?_); rintro e w1 ⟨rfl, x1⟩; obtain ⟨f0, f1, f2⟩ := cells3 (blk_of x1); have z1 := blk_lt (blk_of x1))
      | (at_builtin; refine wpList_app el22 rfl _ _ rfl (World.ownsRow_lit _ #[.int .u8 255] 1 (Nat.le_refl _) (le_max (by omega)) rfl) rfl (hr.ext (((Ext.refl _).alloc _).trans (x1.alloc _))).shows rfl (u8s_one _) (le_max (by omega)) (by omega) rfl ((Ext.refl _).alloc _) ?_; intro v2 w2 hown2 x2 hg2 hat2))
    go_ret2
    obtain ⟨A', c', rfl, l1, l2, l3⟩ := own_put (hd := [255]) hown2 rfl HL.out hb
    exact ⟨A', c', rfl, l1, l2, (((Ext.refl _).alloc _).trans x1).trans x2, l3⟩
  · obtain rfl : n = 0 := by simp [mayR] at hm; omega
    obtain rfl : bs = [] := List.eq_nil_of_length_eq_zero HL.out
    go_enter Try.func8, Try.ntmps8
    go_wp2_with (first
      | (go_at_call 17; (with_reducible refine (may_any _ _ _ _ _ _).mono ?_); rintro e w1 ⟨rfl, x1⟩; obtain ⟨f0, f1, f2⟩ := cells3 (blk_of x1); have z1 := blk_lt (blk_of x1)))
    go_ret2
    exact ⟨_, 2, rfl, by simp [putR, headR], le_max (by omega), (((Ext.refl _).alloc _).trans x1).alloc _, rd_new (cs := putR 2 code []) 5 (by simp) hb⟩
  · go_enter Try.func8, Try.ntmps8
    go_wp2_with (first
      | (go_at_call 17; (with_reducible refine (may_any _ _ _ _ _ _).mono ?_); rintro e w1 ⟨rfl, x1⟩; obtain ⟨f0, f1, f2⟩ := cells3 (blk_of x1); have z1 := blk_lt (blk_of x1))
      | (at_builtin; refine wpList_app el22 rfl _ _ rfl (World.ownsRow_lit _ #[.int .u8 253, .int .u8 code] 2 (Nat.le_refl _) (le_max (by omega)) rfl) rfl (hr.ext (((Ext.refl _).alloc _).trans (x1.alloc _))).shows rfl (u8s_one _) (le_max (by omega)) (by omega) rfl ((Ext.refl _).alloc _) ?_; intro v2 w2 hown2 x2 hg2 hat2))
    go_ret2
    obtain ⟨A', c', rfl, l1, l2, l3⟩ := own_put (hd := [253, code]) hown2 rfl HL.out hb
    exact ⟨A', c', rfl, l1, l2, (((Ext.refl _).alloc _).trans x1).trans x2, l3⟩
  · go_enter Try.func8, Try.ntmps8
    go_wp2_with (first
      | (go_at_call 17; (with_reducible refine (may_any _ _ _ _ _ _).mono ?_); rintro e w1 ⟨rfl, x1⟩; obtain ⟨f0, f1, f2⟩ := cells3 (blk_of x1); have z1 := blk_lt (blk_of x1))
      | (at_builtin; refine wpList_app el22 rfl _ _ rfl (World.ownsRow_lit _ #[.int .u8 code] 1 (Nat.le_refl _) (le_max (by omega)) rfl) rfl (hr.ext (((Ext.refl _).alloc _).trans (x1.alloc _))).shows rfl (u8s_one _) (le_max (by omega)) (by omega) rfl ((Ext.refl _).alloc _) ?_; intro v2 w2 hown2 x2 hg2 hat2))
    go_ret2
    obtain ⟨A', c', rfl, l1, l2, l3⟩ := own_put (hd := [code]) hown2 rfl HL.out hb
    exact ⟨A', c', rfl, l1, l2, (((Ext.refl _).alloc _).trans x1).trans x2, l3⟩
  · simp [mayR] at hm
    simp_all
end Go.Proofs.Ytjcacemijnlmhaa
