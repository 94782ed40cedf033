import Derived.Test.YtdhdkjiphapliaaT
import Derived.Test.YtdhdkjiphapliaaI
import Derived.Test.YtdhdkjiphapliaaOwnS
set_option linter.unusedVariables false
set_option linter.unusedSimpArgs false
namespace Go.Proofs.Ytdhdkjiphapliaa
open Go.RowKit
theorem qf_wr {F G : Nat → Prop} {w w1 : World} {g : Nat} {s : QS} (h : Qf F w w g s) (k : Kept G w w1) (hG : ∀ b, b < w.heap.size → G b → ¬ F b) : Qf (fun b => F b ∧ ¬ (w.heap.size ≤ b ∧ b < w1.heap.size)) w1 w1 g s := by
  obtain ⟨_, up, rs, va, T, q, hT, hR⟩ := h
  have sz := k.size
  exact ⟨Kept.refl _ _, fun b hb => ⟨up b (by omega), fun h => by omega⟩, rs, va, T, q.kept k (fun b t hb hg => hG b (q.O.lt b t hb) hg (hT b t hb)) (fun r hr ad e hg => hG _ (q.far r hr ad e).2 hg (hR r hr ad e)), fun b t hb => ⟨hT b t hb, fun h => by have := q.O.lt b t hb; omega⟩, fun r hr ad e => ⟨hR r hr ad e, fun h => by have := (q.far r hr ad e).2; omega⟩⟩
theorem qf_re {F : Nat → Prop} {w0 w : World} {g : Nat} {s : QS} (h : Qf F w0 w g s) : Qf F w w g s := by
  obtain ⟨k, up, rest⟩ := h
  exact ⟨Kept.refl _ _, fun b hb => up b (by have := k.size; omega), rest⟩
/-- a queue; two flags; what waits; what is to be put: each in blocks of its own. -/
structure WQ (lo : Nat) (F : Nat → Prop) (w : World) (g gL : Nat) (s : QS) (la lb : Bool) (v : Value) (ws : List Rp) (lv : Value) (xs : List Rp) : Prop where
  q : Qf F w w g s
  low : ∀ b, F b → lo ≤ b
  fl : w.heap[gL]? = some (.cells #[.bool la, .bool lb] 47 (0, 0))
  fF : ¬ F gL
  fo : lo ≤ gL
  row : OwnS w lo 38 3 v ws.length (rps ws)
  rF : ∀ b, v.ownBlock = some b → ¬ F b ∧ b ≠ gL
  lrow : w.ownsRow lo 38 3 lv xs.length (rps xs)
  lF : ∀ b, lv.ownBlock = some b → ¬ F b ∧ b ≠ gL ∧ v.ownBlock ≠ some b
  ok : ∀ x ∈ ws ++ xs, x.ok w ∧ x.n ≤ 100000
  ne : ∀ x ∈ ws ++ xs, ∀ ad, x.A = some ad → ¬ F ad.block ∧ ad.block ≠ gL ∧ v.ownBlock ≠ some ad.block ∧ lv.ownBlock ≠ some ad.block ∧ ad.block < w.heap.size
section
variable {lo : Nat} {F : Nat → Prop} {w w1 : World} {g gL : Nat} {s s' : QS} {la lb : Bool} {v lv : Value} {ws xs : List Rp}
/-- what the queue's calls leave alone. -/
theorem WQ.kept (h : WQ lo F w g gL s la lb v ws lv xs) (q : Qf F w w1 g s') : WQ lo F w1 g gL s' la lb v ws lv xs := by
  have k := q.1
  exact ⟨qf_re q, h.low, k.blk h.fl h.fF, h.fF, h.fo, h.row.keptF k (fun b e => (h.rF b e).1), h.rF, own_keptF h.lrow k (fun b e => (h.lF b e).1), h.lF, fun x hx => ⟨(h.ok x hx).1.kept k (fun ad e => (h.ne x hx ad e).1), (h.ok x hx).2⟩, fun x hx ad e => by obtain ⟨a1, a2, a3, a4, a5⟩ := h.ne x hx ad e; exact ⟨a1, a2, a3, a4, Nat.lt_of_lt_of_le a5 k.size⟩⟩
theorem WQ.ext (h : WQ lo F w g gL s la lb v ws lv xs) (x : Ext w w1) : WQ lo (fun b => F b ∧ ¬ (w.heap.size ≤ b ∧ b < w1.heap.size)) w1 g gL s la lb v ws lv xs := by
  exact ⟨qf_base h.q x, fun b hb => h.low b hb.1, (x.block _ (blk_lt h.fl)).trans h.fl, fun hb => h.fF hb.1, h.fo, h.row.ext x, fun b e => ⟨fun hb => (h.rF b e).1 hb.1, (h.rF b e).2⟩, own_ext h.lrow x, fun b e => ⟨fun hb => (h.lF b e).1 hb.1, (h.lF b e).2⟩, fun y hy => ⟨(h.ok y hy).1.ext x, (h.ok y hy).2⟩, fun y hy ad e => by obtain ⟨a1, a2, a3, a4, a5⟩ := h.ne y hy ad e; exact ⟨fun hb => a1 hb.1, a2, a3, a4, Nat.lt_of_lt_of_le a5 x.size⟩⟩
/-- a list that was made since. -/
theorem WQ.take (h : WQ lo F w g gL s la lb v ws (.slice none 0 0) []) (x : Ext w w1) (hl : RpL w1 w.heap.size lv xs) (hlo : lo ≤ w.heap.size) : WQ lo (fun b => F b ∧ ¬ (w.heap.size ≤ b ∧ b < w1.heap.size)) w1 g gL s la lb v ws lv xs := by
  have e := h.ext x
  have hg := blk_lt h.fl
  refine ⟨e.q, e.low, e.fl, e.fF, e.fo, e.row, e.rF, own_base hl.own hlo, fun b hb => ?_, fun y hy => ?_, fun y hy ad ea => ?_⟩
  · obtain ⟨b1, b2⟩ := hl.own.lt b hb
    exact ⟨fun hF => hF.2 ⟨b1, b2⟩, by omega, fun hv => by have := (h.row.lt b hv).2; omega⟩
  · rcases List.mem_append.1 hy with hy | hy
    · exact e.ok y (List.mem_append_left _ hy)
    · exact hl.ok y hy
  · rcases List.mem_append.1 hy with hy | hy
    · obtain ⟨a1, a2, a3, a4, a5⟩ := e.ne y (List.mem_append_left _ hy) ad ea
      refine ⟨a1, a2, a3, fun hb => ?_, a5⟩
      have := (hl.own.lt _ hb).1
      have := (h.ne y (List.mem_append_left _ hy) ad ea).2.2.2.2
      omega
    · obtain ⟨a1, a2, a3⟩ := hl.ne y hy ad ea
      exact ⟨fun hF => hF.2 ⟨a1, a2⟩, by omega, fun hv => by have := (h.row.lt _ hv).2; omega, fun hb => a3 _ hb rfl, a2⟩
theorem WQ.drop (h : WQ lo F w g gL s la lb v ws lv xs) : WQ lo F w g gL s la lb v ws (.slice none 0 0) [] :=
  ⟨h.q, h.low, h.fl, h.fF, h.fo, h.row, h.rF, ⟨rfl, .inl ⟨rfl, rfl⟩⟩, fun b hb => by simp [Value.ownBlock] at hb, fun x hx => h.ok x (by simp at hx; simp [hx]), fun x hx ad e => by
    obtain ⟨a1, a2, a3, _, a5⟩ := h.ne x (by simp at hx; simp [hx]) ad e
    exact ⟨a1, a2, a3, by simp [Value.ownBlock], a5⟩⟩
/-- what waits begins one later. -/
theorem WQ.tail {x : Rp} {v' : Value} (h : WQ lo F w g gL s la lb v (x :: ws) lv xs) (r : OwnS w lo 38 3 v' ws.length (rps ws)) (hv : v'.ownBlock = v.ownBlock) : WQ lo F w g gL s la lb v' ws lv xs :=
  ⟨h.q, h.low, h.fl, h.fF, h.fo, r, by rw [hv]; exact h.rF, h.lrow, by rw [hv]; exact h.lF, fun y hy => h.ok y (List.mem_cons_of_mem _ hy), by rw [hv]; exact fun y hy => h.ne y (List.mem_cons_of_mem _ hy)⟩
/-- a flag is written. -/
theorem WQ.flag (h : WQ lo F w g gL s la lb v ws lv xs) (i : Nat) (b : Bool) (hi : i < 2) : WQ lo (fun j => F j ∧ ¬ (w.heap.size ≤ j ∧ j < (w.setCell ⟨gL, i, none⟩ (.bool b)).heap.size)) (w.setCell ⟨gL, i, none⟩ (.bool b)) g gL s (if i = 0 then b else la) (if i = 1 then b else lb) v ws lv xs := by
  have k : Kept (fun b => b = gL) w (w.setCell ⟨gL, i, none⟩ (.bool b)) := Kept.of_set _ rfl
  refine ⟨qf_wr h.q k (fun b _ e hF => h.fF (e ▸ hF)), fun b hb => h.low b hb.1, ?_, fun hb => h.fF hb.1, h.fo, h.row.keptF k (fun b e => (h.rF b e).2), fun b e => ⟨fun hb => (h.rF b e).1 hb.1, (h.rF b e).2⟩, own_keptF h.lrow k (fun b e => (h.lF b e).2.1), fun b e => ⟨fun hb => (h.lF b e).1 hb.1, (h.lF b e).2⟩, fun y hy => ⟨(h.ok y hy).1.kept k (fun ad e => (h.ne y hy ad e).2.1), (h.ok y hy).2⟩, fun y hy ad e => by obtain ⟨a1, a2, a3, a4, a5⟩ := h.ne y hy ad e; exact ⟨fun hb => a1 hb.1, a2, a3, a4, Nat.lt_of_lt_of_le a5 k.size⟩⟩
  have := blk_set (i := i) (v := Value.bool b) h.fl
  rw [this]
  rcases (show i = 0 ∨ i = 1 by omega) with rfl | rfl <;> rfl
/-- the first packet's code is written. -/
theorem WQ.code {x : Rp} {gl c : Nat} {n : Nat} (h : WQ lo F w g gL s la lb v ws (.slice (some ⟨gl, 0, none⟩) n c) (x :: xs)) (cd : Int) (hc : 0 ≤ cd ∧ cd < 256) :
    w.cell? ⟨gl, 1, none⟩ = some (.int .u8 x.code) ∧ w.frozen? ⟨gl, 1, none⟩ = false ∧ lo ≤ gl ∧
    WQ lo (fun b => F b ∧ ¬ (w.heap.size ≤ b ∧ b < (w.setCell ⟨gl, 1, none⟩ (.int .u8 cd)).heap.size)) (w.setCell ⟨gl, 1, none⟩ (.int .u8 cd)) g gL s la lb v ws (.slice (some ⟨gl, 0, none⟩) n c) ({ x with code := cd } :: xs) := by
  obtain ⟨gg, cc, e, own, _, hf, hcell, _⟩ := own_set h.lrow (i := 1) (by simp; omega) (.int .u8 cd)
  injection e with e1 e2 e3
  injection e1 with e1
  injection e1 with e1
  subst e1
  have k : Kept (fun b => b = gl) w (w.setCell ⟨gl, 1, none⟩ (.int .u8 cd)) := Kept.of_set _ rfl
  have hl := h.lF gl rfl
  have hr : (rps (x :: xs)).set 1 (.int .u8 cd) = rps ({ x with code := cd } :: xs) := rfl
  rw [hr] at own
  refine ⟨hcell, hf, (h.lrow.lt gl rfl).1, qf_wr h.q k (fun b _ e hF => hl.1 (e ▸ hF)), fun b hb => h.low b hb.1, k.blk h.fl (fun e => hl.2.1 e.symm), fun hb => h.fF hb.1, h.fo, h.row.keptF k (fun b e hb => hl.2.2 (hb ▸ e)), fun b e => ⟨fun hb => (h.rF b e).1 hb.1, (h.rF b e).2⟩, own, fun b e => ⟨fun hb => (h.lF b e).1 hb.1, (h.lF b e).2⟩, fun y hy => ?_, fun y hy ad e => ?_⟩
  · have key : ∀ y ∈ ws ++ x :: xs, y.ok (w.setCell ⟨gl, 1, none⟩ (.int .u8 cd)) ∧ y.n ≤ 100000 := fun y hy => ⟨(h.ok y hy).1.kept k (fun ad e hb => (h.ne y hy ad e).2.2.2.1 (by rw [hb]; rfl)), (h.ok y hy).2⟩
    rcases List.mem_append.1 hy with hy | hy
    · exact key y (List.mem_append_left _ hy)
    · rcases List.mem_cons.1 hy with rfl | hy
      · obtain ⟨⟨a1, a2, a3, a4, a5⟩, a6⟩ := key x (by simp)
        exact ⟨⟨a1, hc, a3, a4, a5⟩, a6⟩
      · exact key y (by simp [hy])
  · have key : ∀ y ∈ ws ++ x :: xs, ∀ ad, y.A = some ad → ¬ (F ad.block ∧ ¬ (w.heap.size ≤ ad.block ∧ ad.block < (w.setCell ⟨gl, 1, none⟩ (.int .u8 cd)).heap.size)) ∧ ad.block ≠ gL ∧ v.ownBlock ≠ some ad.block ∧ Value.ownBlock (.slice (some ⟨gl, 0, none⟩) n c) ≠ some ad.block ∧ ad.block < (w.setCell ⟨gl, 1, none⟩ (.int .u8 cd)).heap.size := fun y hy ad e => by
      obtain ⟨a1, a2, a3, a4, a5⟩ := h.ne y hy ad e
      exact ⟨fun hb => a1 hb.1, a2, a3, a4, Nat.lt_of_lt_of_le a5 k.size⟩
    rcases List.mem_append.1 hy with hy | hy
    · exact key y (List.mem_append_left _ hy) ad e
    · rcases List.mem_cons.1 hy with rfl | hy
      · exact key x (by simp) ad e
      · exact key y (by simp [hy]) ad e
/-- what was to be put is behind what waits. -/
theorem WQ.app {v' : Value} (h : WQ lo F w g gL s la lb v ws lv xs) (r : OwnS w1 lo 38 3 v' (ws.length + xs.length) (rps ws ++ rps xs)) (gr : w.grownBy w1 v.ownBlock) (hat : v'.ownBlock = v.ownBlock ∨ v'.ownBlock = some w.heap.size) :
    WQ lo (fun b => F b ∧ ¬ (w.heap.size ≤ b ∧ b < w1.heap.size)) w1 g gL s la lb v' (ws ++ xs) (.slice none 0 0) [] := by
  have k : Kept (fun b => v.ownBlock = some b) w w1 := .of_grown gr (fun b e => e)
  have hg := blk_lt h.fl
  refine ⟨qf_wr h.q k (fun b _ e => (h.rF b e).1), fun b hb => h.low b hb.1, k.blk h.fl (fun e => (h.rF gL e).2 rfl), fun hb => h.fF hb.1, h.fo, by rw [List.length_append, rps_app]; exact r, fun b e => ?_, ⟨rfl, .inl ⟨rfl, rfl⟩⟩, fun b hb => by simp [Value.ownBlock] at hb, fun y hy => ?_, fun y hy ad e => ?_⟩
  · rcases hat with h1 | h1
    · rw [h1] at e
      exact ⟨fun hb => (h.rF b e).1 hb.1, (h.rF b e).2⟩
    · rw [h1] at e
      injection e with e
      have h2 := (r.lt b (by rw [h1, e])).2
      exact ⟨fun hb => hb.2 ⟨by omega, h2⟩, by omega⟩
  · rw [List.append_nil] at hy
    exact ⟨(h.ok y hy).1.kept k (fun ad e => (h.ne y hy ad e).2.2.1), (h.ok y hy).2⟩
  · rw [List.append_nil] at hy
    obtain ⟨a1, a2, a3, a4, a5⟩ := h.ne y hy ad e
    refine ⟨fun hb => a1 hb.1, a2, fun hv => ?_, by simp [Value.ownBlock], Nat.lt_of_lt_of_le a5 k.size⟩
    rcases hat with h1 | h1
    · exact a3 (by rw [← h1]; exact hv)
    · rw [h1] at hv; injection hv with hv; omega
end
section
variable {lo : Nat} {F : Nat → Prop} {w w1 : World} {g gL : Nat} {s s' : QS} {la lb : Bool} {v lv : Value} {ws xs : List Rp}
def WQx (lo : Nat) (w : World) (g gL : Nat) (s : QS) (la lb : Bool) (v : Value) (ws : List Rp) (lv : Value) (xs : List Rp) : Prop := ∃ F, WQ lo F w g gL s la lb v ws lv xs
theorem WQx.ext (h : WQx lo w g gL s la lb v ws lv xs) (x : Ext w w1) : WQx lo w1 g gL s la lb v ws lv xs := by obtain ⟨F, h⟩ := h; exact ⟨_, h.ext x⟩
theorem WQx.drop (h : WQx lo w g gL s la lb v ws lv xs) : WQx lo w g gL s la lb v ws (.slice none 0 0) [] := by obtain ⟨F, h⟩ := h; exact ⟨_, h.drop⟩
theorem WQx.sok (h : WQx lo w g gL s la lb v ws lv xs) : s.ok := by obtain ⟨F, h⟩ := h; exact h.q.ok
theorem WQx.next (h : WQx lo w g gL s la lb v ws lv xs) {p : Pk} {l : List Pk} (hp : s.l = p :: l) : Calls Try.prog 14 #[.pointer (some ⟨g, 0, none⟩)] w fun e w' => ∃ r : Rp, r.pk = p ∧ e = .returned (.tuple #[.agg r.vals.toArray, .bool true]) ∧ r.ok w' ∧ WQx lo w' g gL s.next la lb v ws lv xs ∧ ∀ w0, lo = w0.heap.size → Ext w0 w → Ext w0 w' := by
  obtain ⟨F, h⟩ := h
  refine (next_f h.q hp).mono ?_
  rintro e w' ⟨r, h1, h2, h3, h4⟩
  exact ⟨r, h1, h2, h3, ⟨F, h.kept h4⟩, fun w0 e x => x.kept h4.1 (fun b hb => e ▸ h.low b hb)⟩
theorem WQx.next0 (h : WQx lo w g gL s la lb v ws lv xs) (h0 : s.l = []) : Calls Try.prog 14 #[.pointer (some ⟨g, 0, none⟩)] w fun e w' => e = .returned (.tuple #[.agg Rp.zero.vals.toArray, .bool false]) ∧ Ext w w' ∧ WQx lo w' g gL s la lb v ws lv xs := by
  have h' := h
  obtain ⟨F, h⟩ := h
  exact (next_f0 h.q h0).mono fun e w' ⟨h1, h2, _⟩ => ⟨h1, h2, h'.ext h2⟩
theorem WQx.put {A : Option Addr} {n c : Nat} (h : WQx lo w g gL s la lb v ws (.slice A n c) xs) (hn : n = xs.length) (hm : n ≤ 100000) (list : Int) :
    Calls Try.prog 12 #[.pointer (some ⟨g, 0, none⟩), .int .i64 list, .slice A n c] w fun e w' => e = .returned (.bool (s.put list (xs.map Rp.pk)).1) ∧ WQx lo w' g gL (s.put list (xs.map Rp.pk)).2 la lb v ws (.slice A n c) xs ∧ ∀ w0, lo = w0.heap.size → Ext w0 w → Ext w0 w' := by
  obtain ⟨F, h⟩ := h
  have hs : Shows w 3 A n (rps xs) := by
    have := h.lrow
    rw [← hn] at this
    exact Shows.of_own this
  refine (put_f h.q (Ext.refl _) list c hs hn hm (fun x hx => h.ok x (by simp [hx])) (fun ad e => .inl (h.lF ad.block (by rw [e]; rfl)).1) (fun x hx ad e _ => .inl (h.ne x (by simp [hx]) ad e).1)).mono ?_
  rintro e w' ⟨h1, h2⟩
  exact ⟨h1, ⟨F, h.kept h2⟩, fun w0 e x => x.kept h2.1 (fun b hb => e ▸ h.low b hb)⟩
theorem WQx.len (h : WQx lo w g gL s la lb v ws lv xs) : Calls Try.prog 19 #[.pointer (some ⟨g, 0, none⟩)] w fun e w' => e = .returned (.int .i64 (s.l.length : Int)) ∧ w = w' := by
  obtain ⟨F, h⟩ := h
  exact len_f h.q
end
theorem wq_start {w1 w2 w3 : World} {g : Nat} {s : QS} (h : Qb w1 w2 g s) (h0 : s.l = []) (hw : w3 = w2.alloc (.cells #[.bool false, .bool false] 47)) : WQx w1.heap.size w3 g w2.heap.size s false false (.slice none 0 0) [] (.slice none 0 0) [] := by
  subst hw
  have x : Ext w2 (w2.alloc (.cells #[.bool false, .bool false] 47)) := (Ext.refl _).alloc _
  have sz : (w2.alloc (.cells #[.bool false, .bool false] 47)).heap.size = w2.heap.size + 1 := Array.size_push _
  have x0 := h.1.size
  refine ⟨_, qf_start h h0 x, fun b hb => hb.1, heap_alloc_new _ _, fun hb => hb.2 ⟨Nat.le_refl _, by omega⟩, x0, OwnS.nil, fun b hb => by simp [Value.ownBlock] at hb, ⟨rfl, .inl ⟨rfl, rfl⟩⟩, fun b hb => by simp [Value.ownBlock] at hb, (by simp), (by simp)⟩
end Go.Proofs.Ytdhdkjiphapliaa
