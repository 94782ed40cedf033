import Derived.Test.YtdhdkjiphapliaaF
set_option linter.unusedVariables false
set_option linter.unusedSimpArgs false
namespace Go.Proofs.Ytdhdkjiphapliaa
open Go.RowKit
section
variable {w : World} {g : Nat} {s : QS} {rs : List Rp} {va : Tg → Value} {T : Nat → Option Tg}
theorem put_any (h : QuC w 54 g s rs va T) (list : Int) {A : Option Addr} {n : Nat} (c : Nat) {xs : List Rp} (hs : Shows w 3 A n (rps xs)) (hn : n = xs.length) (hm : n ≤ 100000) (hx : ∀ x ∈ xs, x.ok w ∧ x.n ≤ 100000) (hA : ∀ ad, A = some ad → T ad.block = none) (hxA : ∀ x ∈ xs, ∀ ad, x.A = some ad → 0 < x.n → T ad.block = none) :
    Calls Try.prog 12 #[.pointer (some ⟨g, 0, none⟩), .int .i64 list, .slice A n c] w fun e w' => e = .returned (.bool (s.put list (xs.map Rp.pk)).1) ∧ QPost w w' 54 g (s.put list (xs.map Rp.pk)).2 rs T := by
  unfold QS.put
  by_cases h1 : 0 ≤ list ∧ list < 4
  · by_cases h2 : samp (xs.map Rp.pk) = false
    · rw [if_pos (.inr h2)]
      exact (put_no2 list c hs hn hm h1 h2).mono fun e w' ⟨h3, h4⟩ => ⟨h3, QPost.same h h4⟩
    · rw [if_neg (fun h => h.elim (fun h => h h1) h2)]
      obtain ⟨j, rfl⟩ : ∃ j : Nat, list = j := ⟨list.toNat, by omega⟩
      rw [List.length_map, Int.toNat_natCast, ← hn]
      by_cases h3 : s.most < s.l.length + n
      · rw [if_pos h3]
        exact put_full h (by omega) c hs hn hm (by simpa using h2) h3
      · rw [if_neg h3]
        exact put_ok h (by omega) c hs hn hm hx hA hxA (by simpa using h2) h3
  · rw [if_pos (.inl h1)]
    exact (put_no1 (w := w) list A n c h1).mono fun e w' ⟨h3, h4⟩ => ⟨h3, by subst h4; exact QPost.same h (Ext.refl _)⟩
end
/-- a queue beside whatever was there at w0. -/
def Qb (w0 w : World) (g : Nat) (s : QS) : Prop := Ext w0 w ∧ ∃ rs va T, QuC w 54 g s rs va T ∧ ∀ b t, T b = some t → w0.heap.size ≤ b
section
variable {w0 w w1 : World} {g : Nat} {s : QS}
theorem Qb.ext (h : Qb w0 w g s) (x : Ext w w1) : Qb w0 w1 g s := by
  obtain ⟨h1, rs, va, T, h2, h3⟩ := h
  exact ⟨h1.trans x, rs, va, T, h2.ext x, h3⟩
theorem Qb.ok (h : Qb w0 w g s) : s.ok := by
  obtain ⟨_, _, _, _, h2, _⟩ := h
  exact h2.ok
theorem qb_of {rs : List Rp} {va : Tg → Value} {T : Nat → Option Tg} {s' : QS} (x : Ext w0 w) (hT : ∀ b t, T b = some t → w0.heap.size ≤ b) (h : QPost w w1 54 g s' rs T) : Qb w0 w1 g s' := by
  obtain ⟨rs', va', T', h1, h2, h3, _⟩ := h
  refine ⟨x.kept h2 (fun i hi => by obtain ⟨t, ht⟩ := Option.ne_none_iff_exists'.1 hi; exact hT i t ht), rs', va', T', h1, fun b t hb => ?_⟩
  rcases h3 b t hb with h | h
  · obtain ⟨t', ht'⟩ := Option.ne_none_iff_exists'.1 h
    exact hT b t' ht'
  · exact Nat.le_trans x.size h
theorem put_b (h : Qb w0 w g s) (x : Ext w w1) (list : Int) {A : Option Addr} {n : Nat} (c : Nat) {xs : List Rp} (hs : Shows w1 3 A n (rps xs)) (hn : n = xs.length) (hm : n ≤ 100000) (hx : ∀ x ∈ xs, x.ok w1 ∧ x.n ≤ 100000) (hA : ∀ ad, A = some ad → ad.block < w0.heap.size ∨ w.heap.size ≤ ad.block) (hxA : ∀ x ∈ xs, ∀ ad, x.A = some ad → 0 < x.n → ad.block < w0.heap.size ∨ w.heap.size ≤ ad.block) :
    Calls Try.prog 12 #[.pointer (some ⟨g, 0, none⟩), .int .i64 list, .slice A n c] w1 fun e w' => e = .returned (.bool (s.put list (xs.map Rp.pk)).1) ∧ Qb w0 w' g (s.put list (xs.map Rp.pk)).2 := by
  obtain ⟨x0, rs, va, T, h2, h3⟩ := h
  have key : ∀ b, b < w0.heap.size ∨ w.heap.size ≤ b → T b = none := fun b hb => by
    rcases e : T b with _ | t
    · rfl
    · have h4 := h3 b t e
      have h5 := h2.O.lt b t e
      omega
  exact (put_any (h2.ext x) list c hs hn hm hx (fun ad e => key _ (hA ad e)) (fun y hy ad e h0 => key _ (hxA y hy ad e h0))).mono fun e w' ⟨h4, h5⟩ => ⟨h4, qb_of (rs := rs) (va := va) (x0.trans x) h3 h5⟩
theorem next_none (h : Qb w0 w g s) (h0 : s.l = []) : Calls Try.prog 14 #[.pointer (some ⟨g, 0, none⟩)] w fun e w' => e = .returned (.tuple #[.agg Rp.zero.vals.toArray, .bool false]) ∧ Ext w w' ∧ Qb w0 w' g s := by
  have HH := Lib.hid h
  have HC := Lib.hid (show ∀ W, Ext w W → Calls Try.prog 19 #[.pointer (some ⟨g, 0, none⟩)] W fun e w' => e = .returned (.int .i64 0) ∧ W = w' from fun W x => by
    obtain ⟨_, _, _, _, h2, _⟩ := h
    have := len_any (h2.ext x)
    rw [h0] at this
    exact this)
  clear h h0
  go_enter Try.func14, Try.ntmps14
  go_wp2_with (go_at_call 19; (refine (HC.out _ ((Ext.refl _).alloc _)).mono ?_); rintro e w1 ⟨rfl, rfl⟩)
  try simp only [Exit.inBlock, Exit.then]
  refine bodyPost_ret (results_row2 rfl rfl (heap_alloc_new w _) Try.underlying38 rfl (by kernel_rfl)) rfl ?_
  exact ⟨rfl, (Ext.refl _).alloc _, HH.out.ext ((Ext.refl _).alloc _)⟩
theorem next_one (h : Qb w0 w g s) {p : Pk} {l : List Pk} (hp : s.l = p :: l) : Calls Try.prog 14 #[.pointer (some ⟨g, 0, none⟩)] w fun e w' => ∃ r : Rp, r.pk = p ∧ e = .returned (.tuple #[.agg r.vals.toArray, .bool true]) ∧ r.ok w' ∧ Qb w0 w' g s.next := by
  obtain ⟨x0, rs, va, T, h2, h3⟩ := h
  refine (next_some h2 hp).mono ?_
  rintro e w' ⟨r, h4, h5, h6, _, h7⟩
  exact ⟨r, h4, h5, h6, qb_of (rs := rs) (va := va) x0 h3 h7⟩
theorem len_b (h : Qb w0 w g s) : Calls Try.prog 19 #[.pointer (some ⟨g, 0, none⟩)] w fun e w' => e = .returned (.int .i64 (s.l.length : Int)) ∧ w = w' := by
  obtain ⟨_, _, _, _, h2, _⟩ := h
  exact len_any h2
theorem new_b {n : Nat} (h1 : 1 ≤ n) (h2 : n ≤ 64) (w : World) : Calls Try.prog 9 #[.int .i64 (n : Int)] w fun e w' => ∃ g, e = .returned (.tuple #[.pointer (some ⟨g, 0, none⟩), .int .i64 0]) ∧ Qb w w' g (.new n) := by
  refine (new_yes9 h1 h2 w).mono ?_
  rintro e w' ⟨g, rs, va, T, h3, h4, h5, h6⟩
  exact ⟨g, h3, h4, rs, va, T, h5, h6⟩
end
/-- packets of a literal. -/
def lit (kind code : Int) : Rp := ⟨kind, code, none, 0, 0, []⟩
theorem lit_ok {w : World} {kind code : Int} (h1 : 0 ≤ kind ∧ kind < 256) (h2 : 0 ≤ code ∧ code < 256) : (lit kind code).ok w := ⟨h1, h2, Rd.nil, Nat.le_refl _, Nat.zero_le _⟩
theorem put_l1 {w0 w : World} {g : Nat} {s : QS} (h : Qb w0 w g s) (list code : Int) (h2 : 0 ≤ code ∧ code < 256) {w1 : World} (hw : w1 = w.alloc (.cells #[.int .u8 0, .int .u8 code, .slice none 0 0] 38)) :
    Calls Try.prog 12 #[.pointer (some ⟨g, 0, none⟩), .int .i64 list, .slice (some ⟨w.heap.size, 0, none⟩) 1 1] w1 fun e w' => e = .returned (.bool (s.put list [⟨0, code, []⟩]).1) ∧ Qb w0 w' g (s.put list [⟨0, code, []⟩]).2 := by
  subst hw
  exact put_b h ((Ext.refl _).alloc _) list 1 (xs := [lit 0 code]) (shows_one (r := lit 0 code) 38) rfl (by omega) (fun x hx => by simp at hx; subst hx; exact ⟨lit_ok (by decide) h2, Nat.zero_le _⟩) (fun ad e => by injection e with e; subst e; exact .inr (Nat.le_refl _)) (fun x hx ad e _ => by simp at hx; subst hx; cases e)
theorem put_l2 {w0 w : World} {g : Nat} {s : QS} (h : Qb w0 w g s) (list c1 c2 : Int) (h1 : 0 ≤ c1 ∧ c1 < 256) (h2 : 0 ≤ c2 ∧ c2 < 256) {w1 : World} (hw : w1 = w.alloc (.cells #[.int .u8 0, .int .u8 c1, .slice none 0 0, .int .u8 0, .int .u8 c2, .slice none 0 0] 38)) :
    Calls Try.prog 12 #[.pointer (some ⟨g, 0, none⟩), .int .i64 list, .slice (some ⟨w.heap.size, 0, none⟩) 2 2] w1 fun e w' => e = .returned (.bool (s.put list [⟨0, c1, []⟩, ⟨0, c2, []⟩]).1) ∧ Qb w0 w' g (s.put list [⟨0, c1, []⟩, ⟨0, c2, []⟩]).2 := by
  subst hw
  have hs : Shows (w.alloc (.cells #[.int .u8 0, .int .u8 c1, .slice none 0 0, .int .u8 0, .int .u8 c2, .slice none 0 0] 38)) 3 (some ⟨w.heap.size, 0, none⟩) 2 (rps [lit 0 c1, lit 0 c2]) := by
    have e : rps [lit 0 c1, lit 0 c2] = [.int .u8 0, .int .u8 c1, .slice none 0 0, .int .u8 0, .int .u8 c2, .slice none 0 0] := rfl
    rw [e]
    exact ⟨rfl, fun _ => ⟨_, rfl, by simp, World.news_of_block (heap_alloc_new w _)⟩⟩
  exact put_b h ((Ext.refl _).alloc _) list 2 (xs := [lit 0 c1, lit 0 c2]) hs rfl (by omega) (fun x hx => by simp at hx; rcases hx with rfl | rfl; exact ⟨lit_ok (by decide) h1, Nat.zero_le _⟩; exact ⟨lit_ok (by decide) h2, Nat.zero_le _⟩) (fun ad e => by injection e with e; subst e; exact .inr (Nat.le_refl _)) (fun x hx ad e _ => by simp at hx; rcases hx with rfl | rfl <;> cases e)
set_option maxHeartbeats 4000000 in
theorem shown_any (w : World) : Calls Try.prog 8 #[] w fun e w' => e = .returned (.bool true) ∧ Ext w w' := by
  go_enter Try.func8, Try.ntmps8
  go_upto_region 2 with (go_at_call 9; (refine (new_b (n := 2) (by omega) (by omega) _).mono ?_); rintro e w1 ⟨g, rfl, Q1⟩)
  have H1 := Lib.hid Q1
  clear Q1
  go_upto_region 3 with (go_at_call 12; (refine (put_l2 H1.out 0 1 2 (by decide) (by decide) rfl).mono ?_); rw [show (QS.new 2).put 0 [⟨0, 1, []⟩, ⟨0, 2, []⟩] = (true, ⟨2, [⟨0, 1, []⟩, ⟨0, 2, []⟩], [false, false, false, false]⟩) by rfl]; rintro e w2 ⟨rfl, Q2⟩)
  have H2 := Lib.hid Q2
  clear Q2
  go_upto_region 4 with (go_at_call 12; (refine (put_l1 H2.out 0 1 (by decide) rfl).mono ?_); rw [show (⟨2, [⟨0, 1, []⟩, ⟨0, 2, []⟩], [false, false, false, false]⟩ : QS).put 0 [⟨0, 1, []⟩] = (false, ⟨2, [⟨0, 1, []⟩, ⟨0, 2, []⟩], [true, false, false, false]⟩) by rfl]; rintro e w3 ⟨rfl, Q3⟩)
  have H3 := Lib.hid Q3
  clear Q3
  go_upto_region 5 with (go_at_call 14; (refine (next_one H3.out rfl).mono ?_); rintro e w4 ⟨r4, -, rfl, -, Q4⟩)
  have H4 := Lib.hid Q4
  clear Q4
  go_upto_region 6 with (go_at_call 12; (refine (put_l1 H4.out 0 1 (by decide) rfl).mono ?_); rw [show (QS.next ⟨2, [⟨0, 1, []⟩, ⟨0, 2, []⟩], [true, false, false, false]⟩).put 0 [⟨0, 1, []⟩] = (true, ⟨2, [⟨0, 2, []⟩, ⟨0, 65, []⟩], [false, false, false, false]⟩) by rfl]; rintro e w5 ⟨rfl, Q5⟩)
  have H5 := Lib.hid Q5
  clear Q5
  go_upto_region 7 with (go_at_call 14; (refine (next_one H5.out rfl).mono ?_); rintro e w6 ⟨r6, -, rfl, -, Q6⟩)
  have H6 := Lib.hid Q6
  clear Q6
  go_upto_region 8 with (first | (go_at_call 14; (refine (next_one H6.out rfl).mono ?_); rintro e w7 ⟨r7, hr7, rfl, -, Q7⟩; have HR7 := Lib.hid hr7; have H7 := Lib.hid Q7; clear Q7 hr7) | refine wpList_stnew rfl 38 _ _ rfl rfl r7.vals rfl rfl size38 rfl (rp_one r7) ?_)
  obtain ⟨w8, hw8⟩ : ∃ V, V = w7.alloc (.cells r7.vals.toArray 38) := ⟨_, rfl⟩
  have k8 : w8.heap[w7.heap.size]? = some (.cells r7.vals.toArray 38 (0, 0)) := by rw [hw8]; exact heap_alloc_new _ _
  have x8 : Ext w7 w8 := by rw [hw8]; exact (Ext.refl _).alloc _
  rw [← hw8]
  have hc : r7.code = 65 := congrArg Pk.code HR7.out
  have m1 : w8.cell? ⟨w7.heap.size, 1, none⟩ = some (.int .u8 65) := by rw [← hc]; exact blk_cell k8 rfl
  clear hw8 k8 hc
  go_wp2
  go_ret
  exact ⟨rfl, H7.out.1.trans x8⟩
end Go.Proofs.Ytdhdkjiphapliaa
