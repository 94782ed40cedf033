import Derived.Test.YtdhdkjiphapliaaS
import Derived.Test.YtdhdkjiphapliaaM
set_option linter.unusedVariables false
set_option linter.unusedSimpArgs false
namespace Go.Proofs.Ytdhdkjiphapliaa
open Go.RowKit
/-- two queues beside one another, their blocks among F's; and packets held beside them. -/
structure TwC (F : Nat → Prop) (w0 w : World) (t1 t2 : TypeId) (g h : Nat) (s1 s2 : QS) (r1 r2 : List Rp) (v1 v2 : Tg → Value) (T1 T2 : Nat → Option Tg) (hd : List Rp) : Prop where
  k : Kept F w0 w
  up : ∀ b, w0.heap.size ≤ b → F b
  C : QuC w t1 g s1 r1 v1 T1
  R : QuC w t2 h s2 r2 v2 T2
  fC : ∀ b, T1 b ≠ none → F b
  fR : ∀ b, T2 b ≠ none → F b
  dis : ∀ b, T1 b ≠ none → T2 b = none
  aC : ∀ r ∈ r1, ∀ ad, r.A = some ad → F ad.block ∧ T2 ad.block = none
  aR : ∀ r ∈ r2, ∀ ad, r.A = some ad → F ad.block ∧ T1 ad.block = none
  H : ∀ r ∈ hd, r.ok w ∧ ∀ ad, r.A = some ad → T1 ad.block = none ∧ T2 ad.block = none ∧ ad.block < w.heap.size
section
variable {F : Nat → Prop} {w0 w w1 : World} {t1 t2 : TypeId} {g h : Nat} {s1 s2 s' : QS} {r1 r2 : List Rp} {v1 v2 : Tg → Value} {T1 T2 : Nat → Option Tg} {hd : List Rp}
theorem TwC.swap (t : TwC F w0 w t1 t2 g h s1 s2 r1 r2 v1 v2 T1 T2 hd) : TwC F w0 w t2 t1 h g s2 s1 r2 r1 v2 v1 T2 T1 hd :=
  ⟨t.k, t.up, t.R, t.C, t.fR, t.fC, fun b hb => by
    rcases e : T1 b with _ | x
    · rfl
    · exact absurd (t.dis b (by rw [e]; simp)) hb, t.aR, t.aC, fun r hr => ⟨(t.H r hr).1, fun ad e => ⟨((t.H r hr).2 ad e).2.1, ((t.H r hr).2 ad e).1, ((t.H r hr).2 ad e).2.2⟩⟩⟩
theorem TwC.ext (t : TwC F w0 w t1 t2 g h s1 s2 r1 r2 v1 v2 T1 T2 hd) (x : Ext w w1) : TwC F w0 w1 t1 t2 g h s1 s2 r1 r2 v1 v2 T1 T2 hd :=
  ⟨t.k.then x, t.up, t.C.ext x, t.R.ext x, t.fC, t.fR, t.dis, t.aC, t.aR, fun r hr => ⟨(t.H r hr).1.ext x, fun ad e => ⟨((t.H r hr).2 ad e).1, ((t.H r hr).2 ad e).2.1, Nat.lt_of_lt_of_le ((t.H r hr).2 ad e).2.2 x.size⟩⟩⟩
theorem tag_none_of {T T' : Nat → Option Tg} {w : World} {b : Nat} (tb : ∀ b t, T' b = some t → T b ≠ none ∨ w.heap.size ≤ b) (h1 : T b = none) (h2 : b < w.heap.size) : T' b = none := by
  rcases e : T' b with _ | x
  · rfl
  · rcases tb b x e with h | h
    · exact absurd h1 h
    · omega
/-- the first of both after a call; a packet that was in it may be held. -/
theorem TwC.step (t : TwC F w0 w t1 t2 g h s1 s2 r1 r2 v1 v2 T1 T2 hd) (p : QPost w w1 t1 g s' r1 T1) (x : List Rp) (hx : ∀ r ∈ x, r ∈ r1 ∧ r.ok w1) : ∃ r1' v1' T1', TwC F w0 w1 t1 t2 g h s' s2 r1' r2 v1' v2 T1' T2 (x ++ hd) := by
  obtain ⟨rs', va', T', q, kp, tb, fr⟩ := p
  have sz := t.k.size
  have hi : ∀ b, w.heap.size ≤ b → T2 b = none := fun b hb => by
    rcases e : T2 b with _ | y
    · rfl
    · have := t.R.O.lt b y e; omega
  have hT : ∀ b, T' b ≠ none → T1 b ≠ none ∨ w.heap.size ≤ b := fun b hb => by
    obtain ⟨y, hy⟩ := Option.ne_none_iff_exists'.1 hb
    exact tb b y hy
  refine ⟨rs', va', T', t.k.trans kp (fun i _ hi => t.fC i hi), t.up, q, t.R.kept kp (fun b y hb hc => by rw [t.dis b hc] at hb; cases hb) (fun r hr ad e hc => hc (t.aR r hr ad e).2), fun b hb => (hT b hb).elim (t.fC b) (fun h => t.up b (by omega)), t.fR, fun b hb => (hT b hb).elim (t.dis b) (hi b), fun r hr ad e => ?_, fun r hr ad e => ⟨(t.aR r hr ad e).1, tag_none_of tb (t.aR r hr ad e).2 (t.R.far r hr ad e).2⟩, fun r hr => ?_⟩
  · rcases fr r hr ad e with ⟨r0, h0, h1⟩ | h1
    · exact t.aC r0 h0 ad h1
    · exact ⟨t.up _ (by omega), hi _ h1⟩
  · rcases List.mem_append.1 hr with hr | hr
    · obtain ⟨h1, h2⟩ := hx r hr
      exact ⟨h2, fun ad e => ⟨tag_none_of tb (t.C.far r h1 ad e).1 (t.C.far r h1 ad e).2, (t.aC r h1 ad e).2, Nat.lt_of_lt_of_le (t.C.far r h1 ad e).2 kp.size⟩⟩
    · obtain ⟨h1, h2⟩ := t.H r hr
      exact ⟨h1.kept kp (fun ad e hc => hc (h2 ad e).1), fun ad e => ⟨tag_none_of tb (h2 ad e).1 (h2 ad e).2.2, (h2 ad e).2.1, Nat.lt_of_lt_of_le (h2 ad e).2.2 kp.size⟩⟩
theorem TwC.base (t : TwC F w0 w t1 t2 g h s1 s2 r1 r2 v1 v2 T1 T2 hd) (x : Ext w w1) : TwC (fun b => F b ∧ ¬ (w.heap.size ≤ b ∧ b < w1.heap.size)) w1 w1 t1 t2 g h s1 s2 r1 r2 v1 v2 T1 T2 hd := by
  have t' := t.ext x
  have sz := t.k.size
  have sx := x.size
  have l1 : ∀ b, T1 b ≠ none → b < w.heap.size := fun b hb => by
    obtain ⟨y, hy⟩ := Option.ne_none_iff_exists'.1 hb
    exact t.C.O.lt b y hy
  have l2 : ∀ b, T2 b ≠ none → b < w.heap.size := fun b hb => by
    obtain ⟨y, hy⟩ := Option.ne_none_iff_exists'.1 hb
    exact t.R.O.lt b y hy
  exact ⟨Kept.refl _ _, fun b hb => ⟨t.up b (by omega), fun h => by omega⟩, t'.C, t'.R, fun b hb => ⟨t.fC b hb, fun h => by have := l1 b hb; omega⟩, fun b hb => ⟨t.fR b hb, fun h => by have := l2 b hb; omega⟩, t.dis, fun r hr ad e => ⟨⟨(t.aC r hr ad e).1, fun h => by have := (t.C.far r hr ad e).2; omega⟩, (t.aC r hr ad e).2⟩, fun r hr ad e => ⟨⟨(t.aR r hr ad e).1, fun h => by have := (t.R.far r hr ad e).2; omega⟩, (t.aR r hr ad e).2⟩, t'.H⟩
theorem TwC.lift {X : Nat → Prop} (t : TwC (fun b => F b ∧ X b) w1 w t1 t2 g h s1 s2 r1 r2 v1 v2 T1 T2 hd) (k : Kept F w0 w1) (up : ∀ b, w0.heap.size ≤ b → F b) : TwC F w0 w t1 t2 g h s1 s2 r1 r2 v1 v2 T1 T2 hd :=
  ⟨k.trans' (t.k.mono (fun i _ h => h.1)), up, t.C, t.R, fun b hb => (t.fC b hb).1, fun b hb => (t.fR b hb).1, t.dis, fun r hr ad e => ⟨(t.aC r hr ad e).1.1, (t.aC r hr ad e).2⟩, fun r hr ad e => ⟨(t.aR r hr ad e).1.1, (t.aR r hr ad e).2⟩, t.H⟩
theorem TwC.drop (t : TwC F w0 w t1 t2 g h s1 s2 r1 r2 v1 v2 T1 T2 hd) : TwC F w0 w t1 t2 g h s1 s2 r1 r2 v1 v2 T1 T2 [] := ⟨t.k, t.up, t.C, t.R, t.fC, t.fR, t.dis, t.aC, t.aR, by intro r hr; cases hr⟩
end
/-- the code's queue and the reference's. -/
def Tw (F : Nat → Prop) (w0 w : World) (g h : Nat) (s1 s2 : QS) (hd : List Rp) : Prop := ∃ r1 r2 v1 v2 T1 T2, TwC F w0 w 54 45 g h s1 s2 r1 r2 v1 v2 T1 T2 hd
section
variable {F : Nat → Prop} {w0 w w1 : World} {g h : Nat} {s1 s2 s' : QS} {hd : List Rp}
theorem Tw.ext (t : Tw F w0 w g h s1 s2 hd) (x : Ext w w1) : Tw F w0 w1 g h s1 s2 hd := by obtain ⟨_, _, _, _, _, _, t⟩ := t; exact ⟨_, _, _, _, _, _, t.ext x⟩
theorem Tw.base (t : Tw F w0 w g h s1 s2 hd) (x : Ext w w1) : Tw (fun b => F b ∧ ¬ (w.heap.size ≤ b ∧ b < w1.heap.size)) w1 w1 g h s1 s2 hd := by obtain ⟨_, _, _, _, _, _, t⟩ := t; exact ⟨_, _, _, _, _, _, t.base x⟩
theorem Tw.lift {X : Nat → Prop} (t : Tw (fun b => F b ∧ X b) w1 w g h s1 s2 hd) (k : Kept F w0 w1) (up : ∀ b, w0.heap.size ≤ b → F b) : Tw F w0 w g h s1 s2 hd := by obtain ⟨_, _, _, _, _, _, t⟩ := t; exact ⟨_, _, _, _, _, _, t.lift k up⟩
theorem Tw.drop (t : Tw F w0 w g h s1 s2 hd) : Tw F w0 w g h s1 s2 [] := by obtain ⟨_, _, _, _, _, _, t⟩ := t; exact ⟨_, _, _, _, _, _, t.drop⟩
theorem Tw.k (t : Tw F w0 w g h s1 s2 hd) : Kept F w0 w := by obtain ⟨_, _, _, _, _, _, t⟩ := t; exact t.k
theorem Tw.up (t : Tw F w0 w g h s1 s2 hd) : ∀ b, w0.heap.size ≤ b → F b := by obtain ⟨_, _, _, _, _, _, t⟩ := t; exact t.up
theorem Tw.ok (t : Tw F w0 w g h s1 s2 hd) : s1.ok := by obtain ⟨_, _, _, _, _, _, t⟩ := t; exact t.C.ok
theorem Tw.held (t : Tw F w0 w g h s1 s2 hd) : ∀ r ∈ hd, r.ok w := by obtain ⟨_, _, _, _, _, _, t⟩ := t; exact fun r hr => (t.H r hr).1
theorem Tw.lenC (t : Tw F w0 w g h s1 s2 hd) : Calls Try.prog 19 #[.pointer (some ⟨g, 0, none⟩)] w fun e w' => e = .returned (.int .i64 (s1.l.length : Int)) ∧ w = w' := by
  obtain ⟨_, _, _, _, _, _, t⟩ := t
  exact len_any t.C
theorem Tw.rowR (t : Tw F w0 w g h s1 s2 hd) : ∃ A c, w.cell? ⟨h, 1, none⟩ = some (.slice A s2.l.length c) ∧ s2.l.length ≤ 64 ∧ s2.l.length ≤ c := by
  obtain ⟨_, _, _, _, _, _, t⟩ := t
  obtain ⟨A, c, _, h1, _, _, k1, _⟩ := t.R.cells
  rw [t.R.len] at k1 h1
  exact ⟨A, c, k1, Nat.le_trans t.R.ok.n t.R.ok.m2, h1⟩
theorem put_t (t : Tw F w0 w g h s1 s2 hd) (list : Int) {A : Option Addr} {n : Nat} (c : Nat) {xs : List Rp} (hs : Shows w 3 A n (rps xs)) (hn : n = xs.length) (hm : n ≤ 100000) (hx : ∀ x ∈ xs, x.ok w ∧ x.n ≤ 100000) (hA : ∀ ad, A = some ad → ¬ F ad.block) (hxA : ∀ x ∈ xs, ∀ ad, x.A = some ad → 0 < x.n → ¬ F ad.block) :
    Calls Try.prog 12 #[.pointer (some ⟨g, 0, none⟩), .int .i64 list, .slice A n c] w fun e w' => e = .returned (.bool (s1.put list (xs.map Rp.pk)).1) ∧ Tw F w0 w' g h (s1.put list (xs.map Rp.pk)).2 s2 hd := by
  obtain ⟨_, _, _, _, _, _, t⟩ := t
  have key : ∀ b, ¬ F b → _ = none := fun b hb => Classical.byContradiction fun h => hb (t.fC b h)
  refine (put_any t.C list c hs hn hm hx (fun ad e => key _ (hA ad e)) (fun y hy ad e h0 => key _ (hxA y hy ad e h0))).mono fun e w' ⟨h4, h5⟩ => ⟨h4, ?_⟩
  obtain ⟨_, _, _, t'⟩ := t.step h5 [] (by intro r hr; cases hr)
  exact ⟨_, _, _, _, _, _, t'⟩
theorem rput_t (t : Tw F w0 w g h s1 s2 hd) (list : Int) {A : Option Addr} {n : Nat} (c : Nat) {xs : List Rp} (hs : Shows w 3 A n (rps xs)) (hn : n = xs.length) (hm : n ≤ 100000) (hx : ∀ x ∈ xs, x.ok w ∧ x.n ≤ 100000) (hA : ∀ ad, A = some ad → ¬ F ad.block) (hxA : ∀ x ∈ xs, ∀ ad, x.A = some ad → 0 < x.n → ¬ F ad.block) :
    Calls Try.prog 13 #[.pointer (some ⟨h, 0, none⟩), .int .i64 list, .slice A n c] w fun e w' => e = .returned (.bool (s2.put list (xs.map Rp.pk)).1) ∧ Tw F w0 w' g h s1 (s2.put list (xs.map Rp.pk)).2 hd := by
  obtain ⟨_, _, _, _, _, _, t⟩ := t
  have key : ∀ b, ¬ F b → _ = none := fun b hb => Classical.byContradiction fun h => hb (t.fR b h)
  refine (rput_any t.R list c hs hn hm hx (fun ad e => key _ (hA ad e)) (fun y hy ad e h0 => key _ (hxA y hy ad e h0))).mono fun e w' ⟨h4, h5⟩ => ⟨h4, ?_⟩
  obtain ⟨_, _, _, t'⟩ := t.swap.step h5 [] (by intro r hr; cases hr)
  exact ⟨_, _, _, _, _, _, t'.swap⟩
theorem next_t0 (t : Tw F w0 w g h s1 s2 hd) (h0 : s1.l = []) : Calls Try.prog 14 #[.pointer (some ⟨g, 0, none⟩)] w fun e w' => e = .returned (.tuple #[.agg Rp.zero.vals.toArray, .bool false]) ∧ Tw F w0 w' g h s1 s2 hd := by
  have HT := Lib.hid t
  obtain ⟨_, _, _, _, _, _, t⟩ := t
  have tq : Qb w w g s1 → True := fun _ => trivial
  have HC := Lib.hid (show ∀ W, Ext w W → Calls Try.prog 19 #[.pointer (some ⟨g, 0, none⟩)] W fun e w' => e = .returned (.int .i64 0) ∧ W = w' from fun W x => by
    have := len_any (t.C.ext x)
    rw [h0] at this
    exact this)
  clear t h0 tq
  go_enter Try.func14, Try.ntmps14
  go_wp2_with (go_at_call 19; (refine (HC.out _ ((Ext.refl _).alloc _)).mono ?_); rintro e w1 ⟨rfl, rfl⟩)
  try simp only [Exit.inBlock, Exit.then]
  refine bodyPost_ret (results_row2 rfl rfl (heap_alloc_new w _) Try.underlying38 rfl (by kernel_rfl)) rfl ?_
  exact ⟨rfl, HT.out.ext ((Ext.refl _).alloc _)⟩
theorem next_t1 (t : Tw F w0 w g h s1 s2 hd) {p : Pk} {l : List Pk} (hp : s1.l = p :: l) : Calls Try.prog 14 #[.pointer (some ⟨g, 0, none⟩)] w fun e w' => ∃ r : Rp, r.pk = p ∧ e = .returned (.tuple #[.agg r.vals.toArray, .bool true]) ∧ Tw F w0 w' g h s1.next s2 (r :: hd) := by
  obtain ⟨_, _, _, _, _, _, t⟩ := t
  refine (next_some t.C hp).mono ?_
  rintro e w' ⟨r, h4, h5, h6, hm, h7⟩
  obtain ⟨_, _, _, t'⟩ := t.step h7 [r] (by intro x hx; simp at hx; subst hx; exact ⟨hm, h6⟩)
  exact ⟨r, h4, h5, _, _, _, _, _, _, t'⟩
theorem rnext_t0 (t : Tw F w0 w g h s1 s2 hd) (h0 : s2.l = []) : Calls Try.prog 15 #[.pointer (some ⟨h, 0, none⟩)] w fun e w' => e = .returned (.tuple #[.agg Rp.zero.vals.toArray, .bool false]) ∧ Tw F w0 w' g h s1 s2 hd := by
  have HT := Lib.hid t
  obtain ⟨_, _, _, _, _, _, t⟩ := t
  exact (rnext_none t.R h0).mono fun e w' ⟨h1, h2⟩ => ⟨h1, HT.out.ext h2⟩
theorem rnext_t1 (t : Tw F w0 w g h s1 s2 hd) {p : Pk} {l : List Pk} (hp : s2.l = p :: l) : Calls Try.prog 15 #[.pointer (some ⟨h, 0, none⟩)] w fun e w' => ∃ r : Rp, r.pk = p ∧ e = .returned (.tuple #[.agg r.vals.toArray, .bool true]) ∧ Tw F w0 w' g h s1 s2.next (r :: hd) := by
  obtain ⟨_, _, _, _, _, _, t⟩ := t
  refine (rnext_some t.R hp).mono ?_
  rintro e w' ⟨r, h4, h5, h6, hm, h7⟩
  obtain ⟨_, _, _, t'⟩ := t.swap.step h7 [r] (by intro x hx; simp at hx; subst hx; exact ⟨hm, h6⟩)
  exact ⟨r, h4, h5, _, _, _, _, _, _, t'.swap⟩
theorem clear_t (t : Tw F w0 w g h s1 s2 hd) : Calls Try.prog 17 #[.pointer (some ⟨g, 0, none⟩)] w fun e w' => e = .returned (.tuple #[]) ∧ Tw F w0 w' g h s1.clear s2 hd := by
  obtain ⟨_, _, _, _, _, _, t⟩ := t
  refine (clear_any t.C).mono ?_
  rintro e w' ⟨h4, h5⟩
  obtain ⟨_, _, _, t'⟩ := t.step h5 [] (by intro r hr; cases hr)
  exact ⟨h4, _, _, _, _, _, _, t'⟩
theorem rclear_t (t : Tw F w0 w g h s1 s2 hd) : Calls Try.prog 18 #[.pointer (some ⟨h, 0, none⟩)] w fun e w' => e = .returned (.tuple #[]) ∧ Tw F w0 w' g h s1 s2.clear hd := by
  obtain ⟨_, _, _, _, _, _, t⟩ := t
  refine (rclear_any t.R).mono ?_
  rintro e w' ⟨h4, h5⟩
  obtain ⟨_, _, _, t'⟩ := t.swap.step h5 [] (by intro r hr; cases hr)
  exact ⟨h4, _, _, _, _, _, _, t'.swap⟩
end
theorem tw_start {w1 w2 w3 w4 : World} {g h : Nat} {s1 s2 : QS} {rs : List Rp} {va : Tg → Value} {T : Nat → Option Tg} (q : Qb w1 w2 g s1) (h1 : s1.l = []) (x2 : Ext w2 w3) (r : QuC w3 45 h s2 rs va T) (hT : ∀ b t, T b = some t → w2.heap.size ≤ b) (h2 : s2.l = []) (x3 : Ext w3 w4) : Tw (beh w1.heap.size w3.heap.size w4.heap.size) w4 w4 g h s1 s2 [] := by
  obtain ⟨x0, r1, v1, T1, q1, q2⟩ := q
  have e1 : r1 = [] := List.map_eq_nil_iff.1 (by rw [q1.pk, h1])
  have e2 : rs = [] := List.map_eq_nil_iff.1 (by rw [r.pk, h2])
  subst e1 e2
  have a1 := x0.size
  have a2 := x2.size
  have a3 := x3.size
  have g1 : ∀ b, T1 b ≠ none → w1.heap.size ≤ b ∧ b < w2.heap.size := fun b hb => by
    obtain ⟨t, ht⟩ := Option.ne_none_iff_exists'.1 hb
    exact ⟨q2 b t ht, q1.O.lt b t ht⟩
  have g2 : ∀ b, T b ≠ none → w2.heap.size ≤ b ∧ b < w3.heap.size := fun b hb => by
    obtain ⟨t, ht⟩ := Option.ne_none_iff_exists'.1 hb
    exact ⟨hT b t ht, r.O.lt b t ht⟩
  refine ⟨[], [], v1, va, T1, T, Kept.refl _ _, fun b hb => ⟨by omega, fun h => by omega⟩, q1.ext (x2.trans x3), r.ext x3, fun b hb => ⟨(g1 b hb).1, fun h => by have := g1 b hb; omega⟩, fun b hb => ⟨by have := g2 b hb; omega, fun h => by have := g2 b hb; omega⟩, fun b hb => ?_, (by intro r hr; cases hr), (by intro r hr; cases hr), (by intro r hr; cases hr)⟩
  rcases e : T b with _ | t
  · rfl
  · have h3 := g1 b hb
    have h4 := g2 b (by rw [e]; simp)
    omega
end Go.Proofs.Ytdhdkjiphapliaa
