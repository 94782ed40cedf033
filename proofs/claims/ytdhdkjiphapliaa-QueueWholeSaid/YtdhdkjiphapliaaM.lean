import Derived.Test.YtdhdkjiphapliaaL
set_option linter.unusedVariables false
set_option linter.unusedSimpArgs false
namespace Go.Proofs.Ytdhdkjiphapliaa
open Go.RowKit
/-- a queue whose blocks are among F's: what is not stays. -/
def Qf (F : Nat → Prop) (w0 w : World) (g : Nat) (s : QS) : Prop := Kept F w0 w ∧ (∀ b, w0.heap.size ≤ b → F b) ∧ ∃ rs va T, QuC w 54 g s rs va T ∧ (∀ b t, T b = some t → F b) ∧ ∀ r ∈ rs, ∀ ad, r.A = some ad → F ad.block
section
variable {F : Nat → Prop} {w0 w w1 : World} {g : Nat} {s : QS}
theorem Qf.ext (h : Qf F w0 w g s) (x : Ext w w1) : Qf F w0 w1 g s := by
  obtain ⟨h1, h2, rs, va, T, h3, h4⟩ := h
  exact ⟨h1.then x, h2, rs, va, T, h3.ext x, h4⟩
theorem Qf.ok (h : Qf F w0 w g s) : s.ok := by
  obtain ⟨_, _, _, _, _, h2, _⟩ := h
  exact h2.ok
theorem qf_of {rs : List Rp} {va : Tg → Value} {T : Nat → Option Tg} {s' : QS} (k : Kept F w0 w) (up : ∀ b, w0.heap.size ≤ b → F b) (hT : ∀ b t, T b = some t → F b) (hR : ∀ r ∈ rs, ∀ ad, r.A = some ad → F ad.block) (h : QPost w w1 54 g s' rs T) : Qf F w0 w1 g s' := by
  obtain ⟨rs', va', T', h1, h2, h3, h5⟩ := h
  refine ⟨k.trans h2 (fun i _ hi => by obtain ⟨t, ht⟩ := Option.ne_none_iff_exists'.1 hi; exact hT i t ht), up, rs', va', T', h1, fun b t hb => ?_, fun r hr ad e => (h5 r hr ad e).elim (fun ⟨r0, h6, h7⟩ => hR r0 h6 ad h7) (fun h => up _ (Nat.le_trans k.size h))⟩
  rcases h3 b t hb with h | h
  · obtain ⟨t', ht'⟩ := Option.ne_none_iff_exists'.1 h
    exact hT b t' ht'
  · exact up b (Nat.le_trans k.size h)
theorem put_f (h : Qf F w0 w g s) (x : Ext w w1) (list : Int) {A : Option Addr} {n : Nat} (c : Nat) {xs : List Rp} (hs : Shows w1 3 A n (rps xs)) (hn : n = xs.length) (hm : n ≤ 100000) (hx : ∀ x ∈ xs, x.ok w1 ∧ x.n ≤ 100000) (hA : ∀ ad, A = some ad → ¬ F ad.block ∨ w.heap.size ≤ ad.block) (hxA : ∀ x ∈ xs, ∀ ad, x.A = some ad → 0 < x.n → ¬ F ad.block ∨ w.heap.size ≤ ad.block) :
    Calls Try.prog 12 #[.pointer (some ⟨g, 0, none⟩), .int .i64 list, .slice A n c] w1 fun e w' => e = .returned (.bool (s.put list (xs.map Rp.pk)).1) ∧ Qf F w0 w' g (s.put list (xs.map Rp.pk)).2 := by
  obtain ⟨x0, up, rs, va, T, h2, h3, hRR⟩ := h
  have key : ∀ b, ¬ F b ∨ w.heap.size ≤ b → T b = none := fun b hb => by
    rcases e : T b with _ | t
    · rfl
    · have h4 := h3 b t e
      have h5 := h2.O.lt b t e
      rcases hb with hb | hb
      · exact absurd h4 hb
      · omega
  exact (put_any (h2.ext x) list c hs hn hm hx (fun ad e => key _ (hA ad e)) (fun y hy ad e h0 => key _ (hxA y hy ad e h0))).mono fun e w' ⟨h4, h5⟩ => ⟨h4, qf_of (rs := rs) (va := va) (x0.then x) up h3 hRR h5⟩
theorem next_f0 (h : Qf F w0 w g s) (h0 : s.l = []) : Calls Try.prog 14 #[.pointer (some ⟨g, 0, none⟩)] w fun e w' => e = .returned (.tuple #[.agg Rp.zero.vals.toArray, .bool false]) ∧ Ext w w' ∧ Qf F w0 w' g s := by
  obtain ⟨_, rs, va, T, h2, h3, _⟩ := id h.2
  have HH := Lib.hid h
  have HC := Lib.hid (show ∀ W, Ext w W → Calls Try.prog 19 #[.pointer (some ⟨g, 0, none⟩)] W fun e w' => e = .returned (.int .i64 0) ∧ W = w' from fun W x => by
    have := len_any (h2.ext x)
    rw [h0] at this
    exact this)
  clear h h0 h2 h3
  go_enter Try.func14, Try.ntmps14
  go_wp2_with (go_at_call 19; (refine (HC.out _ ((Ext.refl _).alloc _)).mono ?_); rintro e w1 ⟨rfl, rfl⟩)
  try simp only [Exit.inBlock, Exit.then]
  refine bodyPost_ret (results_row2 rfl rfl (heap_alloc_new w _) Try.underlying38 rfl (by kernel_rfl)) rfl ?_
  exact ⟨rfl, (Ext.refl _).alloc _, HH.out.ext ((Ext.refl _).alloc _)⟩
theorem next_f (h : Qf F w0 w g s) {p : Pk} {l : List Pk} (hp : s.l = p :: l) : Calls Try.prog 14 #[.pointer (some ⟨g, 0, none⟩)] w fun e w' => ∃ r : Rp, r.pk = p ∧ e = .returned (.tuple #[.agg r.vals.toArray, .bool true]) ∧ r.ok w' ∧ Qf F w0 w' g s.next := by
  obtain ⟨x0, up, rs, va, T, h2, h3, hRR⟩ := h
  refine (next_some h2 hp).mono ?_
  rintro e w' ⟨r, h4, h5, h6, _, h7⟩
  exact ⟨r, h4, h5, h6, qf_of (rs := rs) (va := va) x0 up h3 hRR h7⟩
theorem len_f (h : Qf F w0 w g s) : Calls Try.prog 19 #[.pointer (some ⟨g, 0, none⟩)] w fun e w' => e = .returned (.int .i64 (s.l.length : Int)) ∧ w = w' := by
  obtain ⟨_, _, _, _, _, h2, _⟩ := h
  exact len_any h2
theorem clear_f (h : Qf F w0 w g s) : Calls Try.prog 17 #[.pointer (some ⟨g, 0, none⟩)] w fun e w' => e = .returned (.tuple #[]) ∧ Qf F w0 w' g s.clear := by
  obtain ⟨x0, up, rs, va, T, h2, h3, hRR⟩ := h
  refine (clear_any h2).mono ?_
  rintro e w' ⟨h4, h5⟩
  exact ⟨h4, qf_of (rs := rs) (va := va) x0 up h3 hRR h5⟩
end
/-- the blocks of a queue that was made ahead of a list: all that came later, but the list's. -/
def beh (lo p q : Nat) (b : Nat) : Prop := lo ≤ b ∧ ¬ (p ≤ b ∧ b < q)
theorem qf_start {w1 w2 w3 : World} {g : Nat} {s : QS} (h : Qb w1 w2 g s) (h0 : s.l = []) (x : Ext w2 w3) : Qf (beh w1.heap.size w2.heap.size w3.heap.size) w3 w3 g s := by
  obtain ⟨x0, rs, va, T, h2, h3⟩ := h
  have hrs : rs = [] := by
    have := h2.pk
    rw [h0] at this
    exact List.map_eq_nil_iff.1 this
  subst hrs
  refine ⟨Kept.refl _ _, fun b hb => ⟨Nat.le_trans (Nat.le_trans x0.size x.size) hb, fun h => by omega⟩, [], va, T, h2.ext x, fun b t hb => ⟨h3 b t hb, fun h => by have := h2.O.lt b t hb; omega⟩, by intro r hr; cases hr⟩
/-- what was laid since is not the queue's. -/
theorem qf_base {F : Nat → Prop} {w0 w w1 : World} {g : Nat} {s : QS} (h : Qf F w0 w g s) (x : Ext w w1) : Qf (fun b => F b ∧ ¬ (w.heap.size ≤ b ∧ b < w1.heap.size)) w1 w1 g s := by
  obtain ⟨h1, h2, rs, va, T, h3, h4, h5⟩ := h
  have s1 := h1.size
  have s2 := x.size
  exact ⟨Kept.refl _ _, fun b hb => ⟨h2 b (by omega), fun h => by omega⟩, rs, va, T, h3.ext x, fun b t hb => ⟨h4 b t hb, fun h => by have := h3.O.lt b t hb; omega⟩, fun r hr ad e => ⟨h5 r hr ad e, fun h => by have := (h3.far r hr ad e).2; omega⟩⟩
theorem qf_set {F : Nat → Prop} {w0 w : World} {g : Nat} {s : QS} (h : Qf F w0 w g s) {B i : Nat} (v : Value) (hB : ¬ F B) : Qf (fun b => F b ∨ b = B) w0 (w.setCell ⟨B, i, none⟩ v) g s := by
  obtain ⟨h1, h2, rs, va, T, h3, h4, h5⟩ := h
  have k : Kept (fun b => b = B) w (w.setCell ⟨B, i, none⟩ v) := Kept.of_set v rfl
  exact ⟨(h1.mono (fun i _ h => .inl h)).trans' (k.mono (fun i _ h => .inr h)), fun b hb => .inl (h2 b hb), rs, va, T, h3.kept k (fun b t hb e => hB (e ▸ h4 b t hb)) (fun r hr ad e h => hB (h ▸ h5 r hr ad e)), fun b t hb => .inl (h4 b t hb), fun r hr ad e => .inl (h5 r hr ad e)⟩
theorem next_fw {F : Nat → Prop} {w0 w : World} {g : Nat} {s : QS} (h : Qf F w0 w g s) : Calls Try.prog 14 #[.pointer (some ⟨g, 0, none⟩)] w fun e w' => ∃ v b s', e = .returned (.tuple #[v, .bool b]) ∧ Qf F w0 w' g s' ∧ s'.most = s.most := by
  rcases hl : s.l with _ | ⟨p, l⟩
  · refine (next_f0 h hl).mono ?_
    rintro e w' ⟨h1, _, h2⟩
    exact ⟨_, _, s, h1, h2, rfl⟩
  · refine (next_f h hl).mono ?_
    rintro e w' ⟨r, _, h1, _, h2⟩
    exact ⟨_, _, s.next, h1, h2, rfl⟩
theorem put_len {s : QS} {list : Int} {l : List Pk} : (s.put list l).2.l.length = s.l.length + (if (s.put list l).1 = true then l.length else 0) ∧ (s.put list l).2.most = s.most := by
  unfold QS.put
  split
  · simp
  · split
    · simp
    · simp [mark_len]
end Go.Proofs.Ytdhdkjiphapliaa
