import Derived.Test.YtjcacemijnlmhaaH
import Derived.Deep.RegionLaw
set_option linter.unusedVariables false
namespace Go.Proofs.Ytjcacemijnlmhaa
open Go.RowKit
theorem step_app {P : Program} {Ops : Array Oper} {o : Oper} {a : Act} {w : World} {K : Act → World → Prop} {Q : Exit → Act → World → Prop} {El : Prop} {t e : TypeId} {size bytes : Nat} {z : Value} (E : Elem P t e size bytes z) (hgd : o.guard = none) (s x : Operand)
    (ho : o.op = .call { callee := .builtin .append, args := #[s, x], argTypes := #[t, t] })
    {base : Nat} {v : Value} {n : Nat} {xs : List Value} (hown : w.ownsRow base e size v n xs) (hs : a.eval s = v)
    {A : Option Addr} {m c : Nat} {news : List Value} (hr : Shows w size A m news) (hx : a.eval x = .slice A m c) (h1 : ∀ u ∈ news, u.oneCell' = true)
    (h63 : n + m ≤ maxLen) (hbytes : (n + m) * bytes ≤ 140737488355328) {w0 : World} (hbase : base = w0.heap.size) (hext : Ext w0 w)
    (hK : ∀ v' w', w'.ownsRow base e size v' (n + m) (xs ++ news) → Ext w0 w' → w.grownBy w' v.ownBlock → (v'.ownBlock = v.ownBlock ∨ v'.ownBlock = some w.heap.size) → K (a.put o.dst v') w') :
    if Region.wanted o (yielded Ops a.tmps) = true then Oper.wp P o a w K Q else El := by
  subst hbase
  have hw : Region.wanted o (yielded Ops a.tmps) = true := by simp [Region.wanted, hgd]
  rw [if_pos hw]
  obtain ⟨v', w', hrun, h2, h3, h4⟩ := run_app_any (P := P) (ty := o.type) E w0.heap.size v n xs hown A m c news hr h1 h63 hbytes hext.size
  unfold Oper.wp execOp
  simp only [ho, resolve, invoke, builtin, Sem.run_bind, Sem.run_pure, Result.andThen_ok, List.map_toArray, List.map_cons, List.map_nil, hs, hx, hrun]
  exact hK _ _ h2 (Below.grown hext h3 hext.size (fun k hk => (hown.lt k hk).1)) h3 h4
theorem rtake_0 (A : Option Addr) (c : Nat) (w : World) : Calls Try.prog 15 #[.slice A 0 c] w fun e w' => e = .returned (.tuple #[.agg #[.int .u8 0, .int .u8 0, .slice none 0 0], .int .i64 5]) ∧ Ext w w' := by
  go_enter Try.func15, Try.ntmps15
  go_wp2
  refine bodyPost_ret (results_row2 rfl rfl (blk_new rfl) Try.underlying24 rfl (by kernel_rfl)) rfl ⟨rfl, (Ext.refl _).alloc _⟩
theorem rtake_1 (A : Option Addr) (c : Nat) (bs : List Int) (x : Int) (w : World) (hr : Rd w A 1 bs) (HX : Hid (x = bs.getD 0 0)) (hx : x = 254 ∨ x = 253) : Calls Try.prog 15 #[.slice A 1 c] w fun e w' => e = .returned (.tuple #[.agg #[.int .u8 0, .int .u8 0, .slice none 0 0], .int .i64 5]) ∧ Ext w w' := by
  obtain ⟨bb, off, rfl, hbb, hc0⟩ := hr.cell (k := 0) (by omega)
  simp only [Nat.add_zero] at hc0
  rw [← HX.out] at hc0
  clear HX
  rcases hx with rfl | rfl
  · go_enter Try.func15, Try.ntmps15
    go_wp2
    refine bodyPost_ret (results_row2 rfl rfl (blk_new rfl) Try.underlying24 rfl (by kernel_rfl)) rfl ⟨rfl, (Ext.refl _).alloc _⟩
  · go_enter Try.func15, Try.ntmps15
    go_wp2
    refine bodyPost_ret (results_row2 rfl rfl (blk_new rfl) Try.underlying24 rfl (by kernel_rfl)) rfl ⟨rfl, (Ext.refl _).alloc _⟩
theorem rtake_N (A : Option Addr) (n c : Nat) (bs : List Int) (w : World) (hr : Rd w A n bs) (hn : n ≤ 20) (hnc : n ≤ c) (hpos : 0 < n) (x : Int) (HX : Hid (x = bs.getD 0 0)) (x0 : 0 ≤ x) (x1 : x < 256) (hn2 : 2 ≤ n) (hx : x = 254) : Calls Try.prog 15 #[.slice A n c] w fun e w' => ∃ err kind code B A' m c', e = .returned (.tuple #[.agg #[.int .u8 kind, .int .u8 code, .slice A' m c'], .int .i64 err]) ∧ TK bs err kind code B ∧ Ext w w' ∧ Rd w' A' m B ∧ m ≤ c' ∧ c' ≤ maxLen := by
  have hl := hr.len
  obtain ⟨bb, off, rfl, hbb, hc0⟩ := hr.cell hpos
  obtain ⟨bb', off', hE, hbb', hc1⟩ := hr.cell (k := 1) (by omega)
  cases hE
  simp only [Nat.add_zero] at hc0
  have hn0 : (0 : Int) < n := by omega
  have hn1' : (1 : Int) < n := by omega
  have hne : ((n : Int) == 0) = false := by simp; omega
  have hn1 : ((n : Int) == 1) = false := by simp; omega
  have htk : Hid (TK bs 0 2 (bs.getD 1 0) []) := .inr (.inr (.inr (.inl ⟨by omega, by rw [← HX.out, hx], rfl, rfl, rfl, rfl⟩)))
  rw [← HX.out, hx] at hc0
  clear HX hl
  generalize bs.getD 1 0 = y at *
  go_enter Try.func15, Try.ntmps15
  go_wp2
  refine bodyPost_ret (results_row2 rfl rfl (blk_new rfl) Try.underlying24 rfl (by kernel_rfl)) rfl ⟨0, 2, _, _, _, 0, 0, rfl, htk.out, (Ext.refl _).alloc _, Rd.nil, by omega, le_max (by omega)⟩
theorem own0 {w : World} {b m : Nat} {v : Value} {bs : List Int} (h : w.ownsRow b 5 1 v (0 + m) ((#[] : Array Value).toList ++ u8s bs)) : w.ownsRow b 5 1 v m (u8s bs) := by simpa using h
set_option maxHeartbeats 1000000 in
theorem rtake_P (A : Option Addr) (n c : Nat) (bs : List Int) (w : World) (hr : Rd w A n bs) (hn : n ≤ 20) (hnc : n ≤ c) (hpos : 0 < n) (x : Int) (HX : Hid (x = bs.getD 0 0)) (x0 : 0 ≤ x) (x1 : x < 256) (hx : x = 255) : Calls Try.prog 15 #[.slice A n c] w fun e w' => ∃ err kind code B A' m c', e = .returned (.tuple #[.agg #[.int .u8 kind, .int .u8 code, .slice A' m c'], .int .i64 err]) ∧ TK bs err kind code B ∧ Ext w w' ∧ Rd w' A' m B ∧ m ≤ c' ∧ c' ≤ maxLen := by
  have hl := hr.len
  obtain ⟨bb, off, rfl, hbb, hc0⟩ := hr.cell hpos
  simp only [Nat.add_zero] at hc0
  have hn0 : (0 : Int) < n := by omega
  have hne : ((n : Int) == 0) = false := by simp; omega
  have htk : Hid (TK bs 0 1 0 ((bs.drop 1).take 7)) := .inr (.inr (.inl ⟨by omega, by rw [← HX.out, hx], rfl, rfl, rfl, rfl⟩))
  rw [← HX.out, hx] at hc0
  clear HX hx x0 x1
  by_cases h1 : n = 1
  · have e0 : bs.drop 1 = [] := List.drop_eq_nil_of_le (by omega)
    try rw [e0] at htk
    clear e0 hl
    subst h1
    have HD := fun {W : World} {ad : Option Addr} (_ : Ext w W) => (Rd.nil : Rd W ad 0 [])
    by_cases hcap : c = 1
    · subst hcap
      go_enter Try.func15, Try.ntmps15
      go_wp2
      refine bodyPost_ret (results_row2 rfl rfl (blk_of ((Ext.refl _).alloc _)) Try.underlying24 rfl (by kernel_rfl)) rfl ⟨0, 1, 0, _, _, 0, 0, rfl, htk.out, ((Ext.refl _).alloc _).alloc _, Rd.nil, by omega, le_max (by omega)⟩
    · go_enter Try.func15, Try.ntmps15
      go_wp2
      refine bodyPost_ret (results_row2 rfl rfl (blk_of ((Ext.refl _).alloc _)) Try.underlying24 rfl (by kernel_rfl)) rfl ⟨0, 1, 0, _, _, 0, 0, rfl, htk.out, ((Ext.refl _).alloc _).alloc _, Rd.nil, by omega, le_max (by omega)⟩
  · have hn1 : ((n : Int) == 1) = false := by simp; omega
    have hc1 : ¬ c = 1 := by omega
    have hd := hr.drop' (k := 1) (by omega) (by omega)
    by_cases h8 : ¬ (8 : Int) < n
    · have e7 : (bs.drop 1).take 7 = bs.drop 1 := List.take_of_length_le (by simp; omega)
      try rw [e7] at htk
      have HD := fun {W : World} (x : Ext w W) => hd.ext x
      have H1 := Lib.hid h1; clear h1 hl e7
      go_enter Try.func15, Try.ntmps15
      go_wp2_with (first
        | (at_builtin; refine wpList_app el22 rfl _ _ rfl (own_lit #[] 0 (by simp) (Nat.le_refl _) (by simp) rfl) rfl (HD (((Ext.refl _).alloc _).alloc _)).shows rfl (u8s_one _) (le_max (by omega)) (by omega) rfl ((Ext.refl _).alloc _) ?_; intro v1 w1 hown1 x1 hg1 hat1; obtain ⟨A', c', rfl, l1, l2, r1, f1⟩ := own_rdF (v := v1) (own0 hown1) (HD (Ext.refl _)).byts; have hz := blk_of x1; have hcw := (((Ext.refl _).alloc _).trans x1).cel hbb hc0)
        | (refine wpList_strow rfl 24 (.tmp 2) (.tmp 61) rfl hz rfl rfl (by kernel_rfl) rfl all3 ?_; intro w2 hg2 hw2))
      refine bodyPost_ret (results_row2 rfl rfl hg2.out Try.underlying24 rfl (by kernel_rfl)) rfl ⟨0, 1, 0, _, A', _, c', rfl, htk.out, (((Ext.refl _).alloc _).trans x1).of_grown hw2 (fun k hk => by simp at hk; omega), r1.grown hw2 (fun ad e h => by have := f1 ad e; simp at h this; omega), l1, l2⟩
    · have hd7 := hd.take (k := 7) (by omega)
      have HD := fun {W : World} (x : Ext w W) => hd7.ext x
      have H1 := Lib.hid h1; clear h1 hl
      go_enter Try.func15, Try.ntmps15
      go_wp2_with (first
        | (at_builtin; refine wpList_app el22 rfl _ _ rfl (own_lit #[] 0 (by simp) (Nat.le_refl _) (by simp) rfl) rfl (HD (((Ext.refl _).alloc _).alloc _)).shows rfl (u8s_one _) (le_max (by omega)) (by omega) rfl ((Ext.refl _).alloc _) ?_; intro v1 w1 hown1 x1 hg1 hat1; obtain ⟨A', c', rfl, l1, l2, r1, f1⟩ := own_rdF (v := v1) (own0 hown1) (HD (Ext.refl _)).byts; have hz := blk_of x1; have hcw := (((Ext.refl _).alloc _).trans x1).cel hbb hc0)
        | (refine wpList_strow rfl 24 (.tmp 2) (.tmp 61) rfl hz rfl rfl (by kernel_rfl) rfl all3 ?_; intro w2 hg2 hw2))
      refine bodyPost_ret (results_row2 rfl rfl hg2.out Try.underlying24 rfl (by kernel_rfl)) rfl ⟨0, 1, 0, _, A', _, c', rfl, htk.out, (((Ext.refl _).alloc _).trans x1).of_grown hw2 (fun k hk => by simp at hk; omega), r1.grown hw2 (fun ad e h => by have := f1 ad e; simp at h this; omega), l1, l2⟩
set_option maxHeartbeats 1000000 in
theorem rtake_D (A : Option Addr) (n c : Nat) (bs : List Int) (w : World) (hr : Rd w A n bs) (hn : n ≤ 20) (hnc : n ≤ c) (hpos : 0 < n) (x : Int) (HX : Hid (x = bs.getD 0 0)) (x0 : 0 ≤ x) (x1 : x < 256) (hx : x ≤ 191) : Calls Try.prog 15 #[.slice A n c] w fun e w' => ∃ err kind code B A' m c', e = .returned (.tuple #[.agg #[.int .u8 kind, .int .u8 code, .slice A' m c'], .int .i64 err]) ∧ TK bs err kind code B ∧ Ext w w' ∧ Rd w' A' m B ∧ m ≤ c' ∧ c' ≤ maxLen := by
  have hl := hr.len
  obtain ⟨bb, off, rfl, hbb, hc0⟩ := hr.cell hpos
  simp only [Nat.add_zero] at hc0
  have hn0 : (0 : Int) < n := by omega
  have hne : ((n : Int) == 0) = false := by simp; omega
  have htk : Hid (TK bs 0 4 x ((bs.drop 1).take 7)) := .inr (.inr (.inr (.inr (.inr (.inl ⟨by omega, by rw [← HX.out]; exact hx, rfl, rfl, HX.out, rfl⟩)))))
  rw [← HX.out] at hc0
  clear HX
  have q1 : (x == 255) = false := by simp; omega
  have q2 : (x == 254) = false := by simp; omega
  have q3 : (x == 253) = false := by simp; omega
  by_cases h1 : n = 1
  · have e0 : bs.drop 1 = [] := List.drop_eq_nil_of_le (by omega)
    try rw [e0] at htk
    clear e0 hl
    subst h1
    have HD := fun {W : World} {ad : Option Addr} (_ : Ext w W) => (Rd.nil : Rd W ad 0 [])
    by_cases hcap : c = 1
    · subst hcap
      go_enter Try.func15, Try.ntmps15
      go_wp2
      refine bodyPost_ret (results_row2 rfl rfl (blk_of ((Ext.refl _).alloc _)) Try.underlying24 rfl (by kernel_rfl)) rfl ⟨0, 4, x, _, _, 0, 0, rfl, htk.out, ((Ext.refl _).alloc _).alloc _, Rd.nil, by omega, le_max (by omega)⟩
    · go_enter Try.func15, Try.ntmps15
      go_wp2
      refine bodyPost_ret (results_row2 rfl rfl (blk_of ((Ext.refl _).alloc _)) Try.underlying24 rfl (by kernel_rfl)) rfl ⟨0, 4, x, _, _, 0, 0, rfl, htk.out, ((Ext.refl _).alloc _).alloc _, Rd.nil, by omega, le_max (by omega)⟩
  · have hn1 : ((n : Int) == 1) = false := by simp; omega
    have hc1 : ¬ c = 1 := by omega
    have hd := hr.drop' (k := 1) (by omega) (by omega)
    by_cases h8 : ¬ (8 : Int) < n
    · have e7 : (bs.drop 1).take 7 = bs.drop 1 := List.take_of_length_le (by simp; omega)
      try rw [e7] at htk
      have HD := fun {W : World} (x : Ext w W) => hd.ext x
      have H1 := Lib.hid h1; clear h1 hl e7
      go_enter Try.func15, Try.ntmps15
      go_wp2_with (first
        | (at_builtin; refine wpList_app el22 rfl _ _ rfl (own_lit #[] 0 (by simp) (Nat.le_refl _) (by simp) rfl) rfl (HD (((Ext.refl _).alloc _).alloc _)).shows rfl (u8s_one _) (le_max (by omega)) (by omega) rfl ((Ext.refl _).alloc _) ?_; intro v1 w1 hown1 x1 hg1 hat1; obtain ⟨A', c', rfl, l1, l2, r1, f1⟩ := own_rdF (v := v1) (own0 hown1) (HD (Ext.refl _)).byts; have hz := blk_of x1; have hcw := (((Ext.refl _).alloc _).trans x1).cel hbb hc0)
        | (refine wpList_strow rfl 24 (.tmp 2) (.tmp 71) rfl hz rfl rfl (by kernel_rfl) rfl all3 ?_; intro w2 hg2 hw2))
      refine bodyPost_ret (results_row2 rfl rfl hg2.out Try.underlying24 rfl (by kernel_rfl)) rfl ⟨0, 4, x, _, A', _, c', rfl, htk.out, (((Ext.refl _).alloc _).trans x1).of_grown hw2 (fun k hk => by simp at hk; omega), r1.grown hw2 (fun ad e h => by have := f1 ad e; simp at h this; omega), l1, l2⟩
    · have hd7 := hd.take (k := 7) (by omega)
      have HD := fun {W : World} (x : Ext w W) => hd7.ext x
      have H1 := Lib.hid h1; clear h1 hl
      go_enter Try.func15, Try.ntmps15
      go_wp2_with (first
        | (at_builtin; refine wpList_app el22 rfl _ _ rfl (own_lit #[] 0 (by simp) (Nat.le_refl _) (by simp) rfl) rfl (HD (((Ext.refl _).alloc _).alloc _)).shows rfl (u8s_one _) (le_max (by omega)) (by omega) rfl ((Ext.refl _).alloc _) ?_; intro v1 w1 hown1 x1 hg1 hat1; obtain ⟨A', c', rfl, l1, l2, r1, f1⟩ := own_rdF (v := v1) (own0 hown1) (HD (Ext.refl _)).byts; have hz := blk_of x1; have hcw := (((Ext.refl _).alloc _).trans x1).cel hbb hc0)
        | (refine wpList_strow rfl 24 (.tmp 2) (.tmp 71) rfl hz rfl rfl (by kernel_rfl) rfl all3 ?_; intro w2 hg2 hw2))
      refine bodyPost_ret (results_row2 rfl rfl hg2.out Try.underlying24 rfl (by kernel_rfl)) rfl ⟨0, 4, x, _, A', _, c', rfl, htk.out, (((Ext.refl _).alloc _).trans x1).of_grown hw2 (fun k hk => by simp at hk; omega), r1.grown hw2 (fun ad e h => by have := f1 ad e; simp at h this; omega), l1, l2⟩
set_option maxHeartbeats 1000000 in
theorem rtake_X (A : Option Addr) (n c : Nat) (bs : List Int) (w : World) (hr : Rd w A n bs) (hn : n ≤ 20) (hnc : n ≤ c) (hpos : 0 < n) (x : Int) (HX : Hid (x = bs.getD 0 0)) (x0 : 0 ≤ x) (x1 : x < 256) (hx : 191 < x) (hx' : x < 253) : Calls Try.prog 15 #[.slice A n c] w fun e w' => ∃ err kind code B A' m c', e = .returned (.tuple #[.agg #[.int .u8 kind, .int .u8 code, .slice A' m c'], .int .i64 err]) ∧ TK bs err kind code B ∧ Ext w w' ∧ Rd w' A' m B ∧ m ≤ c' ∧ c' ≤ maxLen := by
  have hl := hr.len
  obtain ⟨bb, off, rfl, hbb, hc0⟩ := hr.cell hpos
  simp only [Nat.add_zero] at hc0
  have hn0 : (0 : Int) < n := by omega
  have hne : ((n : Int) == 0) = false := by simp; omega
  have htk : Hid (TK bs 1 0 0 []) := .inr (.inr (.inr (.inr (.inr (.inr ⟨by omega, by rw [← HX.out]; exact hx, by rw [← HX.out]; exact hx', rfl, rfl, rfl, rfl⟩)))))
  rw [← HX.out] at hc0
  clear HX
  have q1 : (x == 255) = false := by simp; omega
  have q2 : (x == 254) = false := by simp; omega
  have q3 : (x == 253) = false := by simp; omega
  by_cases h1 : n = 1
  · have e0 : bs.drop 1 = [] := List.drop_eq_nil_of_le (by omega)
    try rw [e0] at htk
    clear e0 hl
    subst h1
    have HD := fun {W : World} {ad : Option Addr} (_ : Ext w W) => (Rd.nil : Rd W ad 0 [])
    by_cases hcap : c = 1
    · subst hcap
      go_enter Try.func15, Try.ntmps15
      go_wp2
      refine bodyPost_ret (results_row2 rfl rfl (blk_of ((Ext.refl _).alloc _)) Try.underlying24 rfl (by kernel_rfl)) rfl ⟨1, 0, 0, _, none, 0, 0, rfl, htk.out, ((Ext.refl _).alloc _).alloc _, Rd.nil, by omega, le_max (by omega)⟩
    · go_enter Try.func15, Try.ntmps15
      go_wp2
      refine bodyPost_ret (results_row2 rfl rfl (blk_of ((Ext.refl _).alloc _)) Try.underlying24 rfl (by kernel_rfl)) rfl ⟨1, 0, 0, _, none, 0, 0, rfl, htk.out, ((Ext.refl _).alloc _).alloc _, Rd.nil, by omega, le_max (by omega)⟩
  · have hn1 : ((n : Int) == 1) = false := by simp; omega
    have hc1 : ¬ c = 1 := by omega
    have hd := hr.drop' (k := 1) (by omega) (by omega)
    by_cases h8 : ¬ (8 : Int) < n
    · have e7 : (bs.drop 1).take 7 = bs.drop 1 := List.take_of_length_le (by simp; omega)
      try rw [e7] at htk
      have HD := fun {W : World} (x : Ext w W) => hd.ext x
      have H1 := Lib.hid h1; clear h1 hl e7
      go_enter Try.func15, Try.ntmps15
      go_wp2_with (first
        | (at_builtin; refine wpList_app el22 rfl _ _ rfl (own_lit #[] 0 (by simp) (Nat.le_refl _) (by simp) rfl) rfl (HD (((Ext.refl _).alloc _).alloc _)).shows rfl (u8s_one _) (le_max (by omega)) (by omega) rfl ((Ext.refl _).alloc _) ?_; intro v1 w1 hown1 x1 hg1 hat1; obtain ⟨A', c', rfl, l1, l2, r1, f1⟩ := own_rdF (v := v1) (own0 hown1) (HD (Ext.refl _)).byts; have hz := blk_of x1; have hcw := (((Ext.refl _).alloc _).trans x1).cel hbb hc0)
        | (refine wpList_strow rfl 24 (.tmp 2) (.tmp 66) rfl hz rfl rfl (by kernel_rfl) rfl all3 ?_; intro w2 hg2 hw2))
      refine bodyPost_ret (results_row2 rfl rfl hg2.out Try.underlying24 rfl (by kernel_rfl)) rfl ⟨1, 0, 0, _, none, 0, 0, rfl, htk.out, (((Ext.refl _).alloc _).trans x1).of_grown hw2 (fun k hk => by simp at hk; omega), Rd.nil, by omega, le_max (by omega)⟩
    · have hd7 := hd.take (k := 7) (by omega)
      have HD := fun {W : World} (x : Ext w W) => hd7.ext x
      have H1 := Lib.hid h1; clear h1 hl
      go_enter Try.func15, Try.ntmps15
      go_wp2_with (first
        | (at_builtin; refine wpList_app el22 rfl _ _ rfl (own_lit #[] 0 (by simp) (Nat.le_refl _) (by simp) rfl) rfl (HD (((Ext.refl _).alloc _).alloc _)).shows rfl (u8s_one _) (le_max (by omega)) (by omega) rfl ((Ext.refl _).alloc _) ?_; intro v1 w1 hown1 x1 hg1 hat1; obtain ⟨A', c', rfl, l1, l2, r1, f1⟩ := own_rdF (v := v1) (own0 hown1) (HD (Ext.refl _)).byts; have hz := blk_of x1; have hcw := (((Ext.refl _).alloc _).trans x1).cel hbb hc0)
        | (refine wpList_strow rfl 24 (.tmp 2) (.tmp 66) rfl hz rfl rfl (by kernel_rfl) rfl all3 ?_; intro w2 hg2 hw2))
      refine bodyPost_ret (results_row2 rfl rfl hg2.out Try.underlying24 rfl (by kernel_rfl)) rfl ⟨1, 0, 0, _, none, 0, 0, rfl, htk.out, (((Ext.refl _).alloc _).trans x1).of_grown hw2 (fun k hk => by simp at hk; omega), Rd.nil, by omega, le_max (by omega)⟩
end Go.Proofs.Ytjcacemijnlmhaa
