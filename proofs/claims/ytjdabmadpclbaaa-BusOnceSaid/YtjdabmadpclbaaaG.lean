import Derived.Test.YtjdabmadpclbaaaF
import Derived.Test.YtjdabmadpclbaaaHeld
import Derived.Great.BuildSlice
set_option linter.unusedVariables false
set_option linter.unusedSimpArgs false
namespace Go.Proofs.Ytjdabmadpclbaaa
open Go.RowKit
theorem size45 : (Try.prog.info? 51).map (·.size) = some 1 := by kernel_rfl
theorem shows_one {w : World} {f : Fr} (t : TypeId) : Shows (w.alloc (.cells f.vals.toArray t)) 11 (some ⟨w.heap.size, 0, none⟩) 1 (frs [f]) := by
  have e : frs [f] = f.vals := by simp [frs]
  rw [e]
  exact ⟨rfl, fun _ => ⟨_, rfl, by simp, World.news_of_block (heap_alloc_new w _)⟩⟩
theorem fill_fr (f : Fr) (z : Value) (hz : z.cells.size = 11) : Instr.fill (fun i => some (i * 11, 11)) ((Array.range (1 * 11)).map (z.cells[· % z.cells.size]!)) [(0, .agg f.vals.toArray)] = some f.vals.toArray := by
  rw [hz]
  generalize z.cells = cs
  kernel_rfl
theorem wp_bsF {w : World} {o : Oper} {a : Act} {K : Act → World → Prop} {Q : Exit → Act → World → Prop} {f : Fr} (x : Operand) (ho : o.op = .buildSlice 51 1 #[(0, x)]) (hx : a.eval x = .agg f.vals.toArray)
    (h : ∀ w', w' = w.alloc (.cells f.vals.toArray 34) → K (a.put o.dst (.slice (some ⟨w.heap.size, 0, none⟩) 1 1)) w') : o.wp Try.prog a w K Q := by
  obtain ⟨i, hi, hz, hsize, hby⟩ := el45.info
  refine wp_buildSlice 51 34 1 #[(0, x)] ho f.vals.toArray i _ Try.underlying51 hi hz (by rw [hsize]; decide) (by rw [hsize]; decide) ?_ (h _ rfl)
  rw [hsize]
  simp only [List.map_toArray, List.map_cons, List.map_nil, hx]
  exact fill_fr f _ rfl
def BxPost (w : World) (ty : TypeId) (g : Nat) (s : BSt) (F : Nat → Prop) (w' : World) : Prop := ∃ F', BxC w' ty g s F' ∧ Kept F w w' ∧ ∀ k, F' k → F k ∨ w.heap.size ≤ k
theorem bxPost_same {w w' : World} {ty : TypeId} {g : Nat} {s : BSt} {F : Nat → Prop} (h : BxC w ty g s F) (x : Ext w w') : BxPost w ty g s F w' := ⟨F, h.ext x, .of_ext x, fun k hk => .inl hk⟩
theorem BxPost.of {w w1 w' : World} {ty : TypeId} {g : Nat} {s : BSt} {F : Nat → Prop} (x : Ext w w1) (h : BxPost w1 ty g s F w') : BxPost w ty g s F w' := by
  obtain ⟨F', h1, h2, h3⟩ := h
  exact ⟨F', h1, Kept.trans' (.of_ext x) h2, fun k hk => (h3 k hk).imp id (Nat.le_trans x.size)⟩
theorem own_neq {w : World} {base : Nat} {e t : TypeId} {size : Nat} {v : Value} {n : Nat} {xs : List Value} {g : Nat} {cs : Array Value} {fr : Nat × Nat} (h : w.ownsRow base e size v n xs) (K : w.heap[g]? = some (.cells cs t fr)) (hne : e ≠ t) : v.ownBlock ≠ some g := by
  intro hb
  rcases h.2 with ⟨rfl, _⟩ | ⟨g', cap, cur, rfl, _, hg, _⟩
  · simp [Value.ownBlock] at hb
  · simp [Value.ownBlock] at hb
    subst hb
    rw [K] at hg
    injection hg with hg
    injection hg with _ ht
    exact hne ht.symm
theorem ty_ne {ty : TypeId} (h : ty = 71 ∨ ty = 53) : 34 ≠ ty ∧ 61 ≠ ty := by rcases h with rfl | rfl <;> decide
theorem bx_set1 {w w3 w4 : World} {ty : TypeId} {g : Nat} {s : BSt} {F : Nat → Prop} {fA : Option Addr} {fc : Nat} {tA : Option Addr} {tc : Nat} {rA : Option Addr} {rc : Nat} (hty : ty = 71 ∨ ty = 53) (h : BxR w ty g s F fA fc tA tc rA rc) (l : List Fr) {A3 : Option Addr} {c3 : Nat}
    (own : w3.ownsRow 0 34 11 (.slice A3 l.length c3) l.length (frs l)) (k3 : Kept (fun b => Value.ownBlock (.slice tA s.tx.length tc) = some b) w w3)
    (at3 : Value.ownBlock (.slice A3 l.length c3) = Value.ownBlock (.slice tA s.tx.length tc) ∨ ∀ b, Value.ownBlock (.slice A3 l.length c3) = some b → w.heap.size ≤ b)
    (K4 : w4.heap[g]? = some (.cells #[.slice fA s.fl.length fc, .slice A3 l.length c3, .slice rA s.rx.length rc, .bool s.lost] ty (0, 0))) (x4 : w3.grownBy w4 (some g)) (okl : ∀ f ∈ l, f.ok) (hl : l.length ≤ 3) : BxPost w ty g { s with tx := l } F w4 := by
  obtain ⟨t37, t53⟩ := ty_ne hty
  have kg : Kept (· = g) w3 w4 := .of_grown x4 (fun b e => by injection e with e; exact e.symm)
  have ng : ∀ b, Value.ownBlock (.slice tA s.tx.length tc) = some b → b ≠ g := fun b e eb => own_neq h.tx h.row t37 (by rw [e, eb])
  have K3 : w3.heap[g]? = some (.cells #[.slice fA s.fl.length fc, .slice tA s.tx.length tc, .slice rA s.rx.length rc, .bool s.lost] ty (0, 0)) := k3.blk h.row (fun e => ng _ e rfl)
  have fil3 := own_keptF h.fil k3 (fun b e e2 => by
    rcases own_ne h.fil h.tx (by decide) with h0 | h0
    · rw [e] at h0; cases h0
    · exact h0 (by rw [e, e2]))
  have rx3 := own_keptF h.rx k3 (fun b e e2 => (h.ft b e2).2 e)
  have kk : Kept F w w4 := (k3.mono (fun b _ e => (h.ft b e).1)).trans (kg.mono (G := fun b => b = g) (fun _ _ e => e)) (fun i _ e => by subst e; exact h.fg)
  refine ⟨fun k => F k ∨ Value.ownBlock (.slice A3 l.length c3) = some k, ⟨hty, fA, fc, A3, c3, rA, rc, K4, own_keptF fil3 kg (fun b e eb => own_neq fil3 K3 t53 (by rw [e, eb])), own_keptF own kg (fun b e eb => own_neq own K3 t37 (by rw [e, eb])), own_keptF rx3 kg (fun b e eb => own_neq rx3 K3 t37 (by rw [e, eb])), .inl h.fg, fun b e => .inl (h.ff b e), ?_, fun b e => .inl (h.fr b e), ?_, ⟨h.ok.fl, okl, h.ok.rx, h.ok.nf, hl, h.ok.nr⟩⟩, kk, ?_⟩
  · intro b e
    refine ⟨.inr e, fun e2 => ?_⟩
    rcases at3 with h0 | h0
    · exact (h.ft b (by rw [← h0]; exact e)).2 e2
    · have := own_lt h.rx e2
      have := h0 b e
      omega
  · rintro k (hk | hk)
    · exact Nat.lt_of_lt_of_le (h.lt k hk) kk.size
    · exact Nat.lt_of_lt_of_le (own_lt own hk) kg.size
  · rintro k (hk | hk)
    · exact .inl hk
    · rcases at3 with h0 | h0
      · exact .inl (h.ft k (by rw [← h0]; exact hk)).1
      · exact .inr (h0 k hk)
theorem bx_set2 {w w3 w4 : World} {ty : TypeId} {g : Nat} {s : BSt} {F : Nat → Prop} {fA : Option Addr} {fc : Nat} {tA : Option Addr} {tc : Nat} {rA : Option Addr} {rc : Nat} (hty : ty = 71 ∨ ty = 53) (h : BxR w ty g s F fA fc tA tc rA rc) (l : List Fr) {A3 : Option Addr} {c3 : Nat}
    (own : w3.ownsRow 0 34 11 (.slice A3 l.length c3) l.length (frs l)) (k3 : Kept (fun b => Value.ownBlock (.slice rA s.rx.length rc) = some b) w w3)
    (at3 : Value.ownBlock (.slice A3 l.length c3) = Value.ownBlock (.slice rA s.rx.length rc) ∨ ∀ b, Value.ownBlock (.slice A3 l.length c3) = some b → w.heap.size ≤ b)
    (K4 : w4.heap[g]? = some (.cells #[.slice fA s.fl.length fc, .slice tA s.tx.length tc, .slice A3 l.length c3, .bool s.lost] ty (0, 0))) (x4 : w3.grownBy w4 (some g)) (okl : ∀ f ∈ l, f.ok) (hl : l.length ≤ 4) : BxPost w ty g { s with rx := l } F w4 := by
  obtain ⟨t37, t53⟩ := ty_ne hty
  have kg : Kept (· = g) w3 w4 := .of_grown x4 (fun b e => by injection e with e; exact e.symm)
  have ng : ∀ b, Value.ownBlock (.slice rA s.rx.length rc) = some b → b ≠ g := fun b e eb => own_neq h.rx h.row t37 (by rw [e, eb])
  have K3 : w3.heap[g]? = some (.cells #[.slice fA s.fl.length fc, .slice tA s.tx.length tc, .slice rA s.rx.length rc, .bool s.lost] ty (0, 0)) := k3.blk h.row (fun e => ng _ e rfl)
  have fil3 := own_keptF h.fil k3 (fun b e e2 => by
    rcases own_ne h.fil h.rx (by decide) with h0 | h0
    · rw [e] at h0; cases h0
    · exact h0 (by rw [e, e2]))
  have tx3 := own_keptF h.tx k3 (fun b e e2 => (h.ft b e).2 e2)
  have kk : Kept F w w4 := (k3.mono (fun b _ e => h.fr b e)).trans (kg.mono (G := fun b => b = g) (fun _ _ e => e)) (fun i _ e => by subst e; exact h.fg)
  refine ⟨fun k => F k ∨ Value.ownBlock (.slice A3 l.length c3) = some k, ⟨hty, fA, fc, tA, tc, A3, c3, K4, own_keptF fil3 kg (fun b e eb => own_neq fil3 K3 t53 (by rw [e, eb])), own_keptF tx3 kg (fun b e eb => own_neq tx3 K3 t37 (by rw [e, eb])), own_keptF own kg (fun b e eb => own_neq own K3 t37 (by rw [e, eb])), .inl h.fg, fun b e => .inl (h.ff b e), ?_, fun b e => .inr e, ?_, ⟨h.ok.fl, h.ok.tx, okl, h.ok.nf, h.ok.nt, hl⟩⟩, kk, ?_⟩
  · intro b e
    refine ⟨.inl (h.ft b e).1, fun e2 => ?_⟩
    rcases at3 with h0 | h0
    · exact (h.ft b e).2 (by rw [← h0]; exact e2)
    · have := own_lt h.tx e
      have := h0 b e2
      omega
  · rintro k (hk | hk)
    · exact Nat.lt_of_lt_of_le (h.lt k hk) kk.size
    · exact Nat.lt_of_lt_of_le (own_lt own hk) kg.size
  · rintro k (hk | hk)
    · exact .inl hk
    · rcases at3 with h0 | h0
      · exact .inl (h.fr k (by rw [← h0]; exact hk))
      · exact .inr (h0 k hk)
theorem bx_set3 {w w4 : World} {ty : TypeId} {g : Nat} {s : BSt} {F : Nat → Prop} {fA : Option Addr} {fc : Nat} {tA : Option Addr} {tc : Nat} {rA : Option Addr} {rc : Nat} (hty : ty = 71 ∨ ty = 53) (h : BxR w ty g s F fA fc tA tc rA rc) (b : Bool)
    (K4 : w4.heap[g]? = some (.cells #[.slice fA s.fl.length fc, .slice tA s.tx.length tc, .slice rA s.rx.length rc, .bool b] ty (0, 0))) (x4 : w.grownBy w4 (some g)) : BxPost w ty g { s with lost := b } F w4 := by
  obtain ⟨t37, t53⟩ := ty_ne hty
  have kg : Kept (· = g) w w4 := .of_grown x4 (fun b e => by injection e with e; exact e.symm)
  exact ⟨F, ⟨hty, fA, fc, tA, tc, rA, rc, K4, own_keptF h.fil kg (fun b e eb => own_neq h.fil h.row t53 (by rw [e, eb])), own_keptF h.tx kg (fun b e eb => own_neq h.tx h.row t37 (by rw [e, eb])), own_keptF h.rx kg (fun b e eb => own_neq h.rx h.row t37 (by rw [e, eb])), h.fg, h.ff, h.ft, h.fr, fun i hi => Nat.lt_of_lt_of_le (h.lt i hi) kg.size, ⟨h.ok.fl, h.ok.tx, h.ok.rx, h.ok.nf, h.ok.nt, h.ok.nr⟩⟩, kg.mono (fun i _ e => by subst e; exact h.fg), fun k hk => .inl hk⟩
theorem BxR.ext {w w' : World} {ty : TypeId} {g : Nat} {s : BSt} {F : Nat → Prop} {fA : Option Addr} {fc : Nat} {tA : Option Addr} {tc : Nat} {rA : Option Addr} {rc : Nat} (h : BxR w ty g s F fA fc tA tc rA rc) (x : Ext w w') : BxR w' ty g s F fA fc tA tc rA rc :=
  ⟨(x.block _ (blk_lt h.row)).trans h.row, own_ext h.fil x, own_ext h.tx x, own_ext h.rx x, h.fg, h.ff, h.ft, h.fr, fun i hi => Nat.lt_of_lt_of_le (h.lt i hi) x.size, h.ok⟩
set_option maxHeartbeats 1000000 in
theorem send_no {w : World} {g : Nat} {s : BSt} {F : Nat → Prop} (h : BxC w 71 g s F) (f : Fr) (hm : f.may = false) : Calls Try.prog 13 #[.pointer (some ⟨g, 0, none⟩), .agg f.vals.toArray] w fun e w' => e = .returned (.int .i64 (s.send f).2) ∧ BxPost w 71 g (s.send f).1 F w' := by
  have es : s.send f = (s, 1) := by simp [BSt.send, hm]
  have HH := Lib.hid h
  clear h
  go_enter Try.func13, Try.ntmps13
  go_wp2_with (first
    | (go_at_call 31; (refine (may_fr f _).mono ?_); rw [hm]; rintro e w1 ⟨rfl, x1⟩)
    | refine wpList_ldrow rfl 34 _ rfl (heap_alloc_new w (.cells f.vals.toArray 34)) rfl Try.underlying34 rfl size37 ?_)
  go_ret
  rw [es]
  exact ⟨rfl, bxPost_same HH.out (((Ext.refl _).alloc _).trans x1)⟩
set_option maxHeartbeats 1000000 in
theorem send_full {w : World} {g : Nat} {s : BSt} {F : Nat → Prop} (h : BxC w 71 g s F) (f : Fr) (hm : f.may = true) (hn : 3 ≤ s.tx.length) : Calls Try.prog 13 #[.pointer (some ⟨g, 0, none⟩), .agg f.vals.toArray] w fun e w' => e = .returned (.int .i64 (s.send f).2) ∧ BxPost w 71 g (s.send f).1 F w' := by
  have es : s.send f = (s, 20) := by simp [BSt.send, hm, hn]
  have HH := Lib.hid h
  obtain ⟨_, fA, fc, tA, tc, rA, rc, h⟩ := h
  have K := h.row
  clear h
  go_enter Try.func13, Try.ntmps13
  go_wp2_with (first
    | (go_at_call 31; (refine (may_fr f _).mono ?_); rw [hm]; rintro e w1 ⟨rfl, x1⟩; have xw := ((Ext.refl w).alloc (.cells f.vals.toArray 34)).trans x1; obtain ⟨f0, f1, f2, f3⟩ := cells4 ((xw.block _ (blk_lt K)).trans K))
    | refine wpList_ldrow rfl 34 _ rfl (heap_alloc_new w (.cells f.vals.toArray 34)) rfl Try.underlying34 rfl size37 ?_)
  go_ret
  rw [es]
  exact ⟨rfl, bxPost_same HH.out xw⟩
set_option maxHeartbeats 4000000 in
theorem send_ok {w : World} {g : Nat} {s : BSt} {F : Nat → Prop} (h : BxC w 71 g s F) (f : Fr) (hf : f.ok) (hm : f.may = true) (hn : ¬ 3 ≤ s.tx.length) : Calls Try.prog 13 #[.pointer (some ⟨g, 0, none⟩), .agg f.vals.toArray] w fun e w' => e = .returned (.int .i64 (s.send f).2) ∧ BxPost w 71 g (s.send f).1 F w' := by
  have es : s.send f = ({ s with tx := s.tx ++ [f] }, 0) := by simp [BSt.send, hm, hn]
  rw [es]
  obtain ⟨_, fA, fc, tA, tc, rA, rc, h⟩ := h
  have K := h.row
  have HH := Lib.hid h
  have hn3 : s.tx.length ≤ 2 := by omega
  clear h es hn
  go_enter Try.func13, Try.ntmps13
  go_upto_region 7 with (first
    | (go_at_call 31; (refine (may_fr f _).mono ?_); rw [hm]; rintro e w1 ⟨rfl, x1⟩; have xw := ((Ext.refl w).alloc (.cells f.vals.toArray 34)).trans x1; have K1 := (xw.block _ (blk_lt K)).trans K; obtain ⟨f0, f1, f2, f3⟩ := cells4 K1)
    | refine wpList_ldrow rfl 34 _ rfl (heap_alloc_new w (.cells f.vals.toArray 34)) rfl Try.underlying34 rfl size37 ?_)
  have kf : w1.heap[w.heap.size]? = some (.cells f.vals.toArray 34 (0, 0)) := (x1.block _ (by simp)).trans (heap_alloc_new w (.cells f.vals.toArray 34))
  have hnF : ¬ F w.heap.size := fun e => by have := HH.out.lt _ e; omega
  have H1 := Lib.hid (HH.out.ext xw)
  have ow := H1.out.tx
  have hng := own_neq ow K1 (by decide)
  clear f0 f1 f2 f3
  refine wp_regionL (Kept F w1) (Ext w1) 7 (by kernel_rfl) (Kept.of_ext (Ext.refl _).drew) ((Ext.refl _).drew) (fun hL => ?_)
  have hP := hL.1
  have hE : Ext w1 (World.drew w1) := (Ext.refl _).drew
  obtain ⟨wD1, hwD⟩ : ∃ V, V = World.drew w1 := ⟨_, rfl⟩
  rw [← hwD] at hL hP hE ⊢
  clear hwD
  refine wpAnyL_takeP (i := 0) (oi := { dst := some 19, op := Op.move (Operand.tmp 0), type := 41, pos := "box.go:37", after := #[], guard := none }) (v := ?vv2_7_0) rfl (by kernel_rfl) (by kernel_rfl) (by kernel_rfl) (by kernel_rfl) (fun _ _ _ h => h) (Or.inl ⟨by rfl, ?yy2_7_0⟩) hL (fun hL => ?_)
  case yy2_7_0 => (intro W hx; go_simp; try with_reducible rfl)
  simp only [Act.put, List.setIfInBounds_toArray, List.set_cons_zero, List.set_cons_succ]
  refine wpAnyL_takeP (i := 1) (oi := { dst := some 20, op := Op.move (Operand.tmp 0), type := 41, pos := "box.go:37", after := #[], guard := none }) (v := ?vv3_7_1) rfl (by kernel_rfl) (by kernel_rfl) (by kernel_rfl) (by kernel_rfl) (fun _ _ _ h => h) (Or.inl ⟨by rfl, ?yy3_7_1⟩) hL (fun hL => ?_)
  case yy3_7_1 => (intro W hx; go_simp; try with_reducible rfl)
  simp only [Act.put, List.setIfInBounds_toArray, List.set_cons_zero, List.set_cons_succ]
  refine wpAnyL_takeP (i := 2) (oi := { dst := some 21, op := Op.nilCheck (Operand.tmp 20), type := 0, pos := "box.go:37", after := #[{ on := 1, ground := Ground.data }], guard := none }) (v := ?vv4_7_2) rfl (by kernel_rfl) (by kernel_rfl) (by kernel_rfl) (by kernel_rfl) (fun _ _ _ h => h) (Or.inl ⟨by rfl, ?yy4_7_2⟩) hL (fun hL => ?_)
  case yy4_7_2 => (intro W hx; go_simp; try with_reducible rfl)
  simp only [Act.put, List.setIfInBounds_toArray, List.set_cons_zero, List.set_cons_succ]
  refine wpAnyL_takeP (i := 3) (oi := { dst := some 22, op := Op.fieldAddr 71 (Operand.tmp 21) 1, type := 0, pos := "box.go:37", after := #[{ on := 2, ground := Ground.data }], guard := none }) (v := ?vv5_7_3) rfl (by kernel_rfl) (by kernel_rfl) (by kernel_rfl) (by kernel_rfl) (fun _ _ _ h => h) (Or.inl ⟨by rfl, ?yy5_7_3⟩) hL (fun hL => ?_)
  case yy5_7_3 => (intro W hx; go_simp; try with_reducible rfl)
  simp only [Act.put, List.setIfInBounds_toArray, List.set_cons_zero, List.set_cons_succ]
  refine wpAnyL_takeB (i := 4) [7] (oi := { dst := some 23, op := Op.load 51 (Operand.tmp 22), type := 51, pos := "box.go:37", after := #[{ on := 3, ground := Ground.data }], guard := none }) (v := ?vv6_7_4) rfl (by kernel_rfl) (by kernel_rfl) (by kernel_rfl) (by kernel_rfl) (fun _ _ _ h => h) (by kernel_rfl) (Or.inl ⟨by rfl, ?yy6_7_4⟩) hL (fun hL => ?_)
  case yy6_7_4 => (intro W hx; have q1 := blk_cell (i := 1) ((hx.2.block _ (blk_lt K1)).trans K1) rfl; go_simp; try with_reducible rfl)
  simp only [Act.put, List.setIfInBounds_toArray, List.set_cons_zero, List.set_cons_succ]
  refine wpAnyL_takeP (i := 5) (oi := { dst := some 24, op := Op.load 34 (Operand.tmp 3), type := 34, pos := "box.go:37", after := #[], guard := none }) (v := ?vv7_7_5) rfl (by kernel_rfl) (by kernel_rfl) (by kernel_rfl) (by kernel_rfl) (fun _ _ _ h => h) (Or.inl ⟨by rfl, ?yy7_7_5⟩) hL (fun hL => ?_)
  case yy7_7_5 => (intro W hx; refine ld_op (frAt (hx.blk kf hnF)) ?_; rfl)
  simp only [Act.put, List.setIfInBounds_toArray, List.set_cons_zero, List.set_cons_succ]
  refine wpAnyL_ready (rs := [6]) (by kernel_rfl) (by simp) (AllReadyL.cons rfl (fun K hK => ?_) AllReadyL.nil)
  rw [if_pos (by rfl)]
  refine wp_bsF (o := { dst := some 25, op := Op.buildSlice 51 1 #[(0, Operand.tmp 24)], type := 51, pos := "box.go:37", after := #[{ on := 5, ground := Ground.data }], guard := none }) _ rfl rfl ?_; intro w2 hw; have xb : Ext wD1 w2 := (by rw [hw]; exact (Ext.refl _).alloc _); have sh := shows_one (w := wD1) (f := f) 34; rw [← hw] at sh; clear hw; have ow2 := own_ext (own_ext ow hE) xb
  simp only [Act.put, List.setIfInBounds_toArray, List.set_cons_zero, List.set_cons_succ]
  replace hE := hE.trans xb
  replace hP := hP.then xb
  clear hL
  refine hK.out _ _ ⟨hP, fun e => hE⟩ (fun hL => ?_)
  clear hK K
  refine wpAnyL_ready (rs := [7]) (by kernel_rfl) (by simp) (AllReadyL.cons rfl (fun K hK => ?_) AllReadyL.nil)
  rw [if_pos (by rfl)]
  refine wp_appB (o := { dst := some 26, op := Op.call { callee := Callee.builtin Builtin.append, args := #[Operand.tmp 23, Operand.tmp 25], argTypes := #[51, 51] }, type := 51, pos := "box.go:37", after := #[{ on := 4, ground := Ground.data }, { on := 6, ground := Ground.data }], guard := none }) el45 _ _ rfl ow2 rfl sh rfl (frs_one _) (le_max (by omega)) (by omega) (Nat.zero_le _) ?_; intro v3 w3 ow3 x3 at3; obtain ⟨g3, c3, rfl, _, _⟩ := ow3.form (by omega)
  simp only [Act.put, List.setIfInBounds_toArray, List.set_cons_zero, List.set_cons_succ]
  replace hP := hP.trans' (Kept.of_grown x3 (fun b e => (HH.out.ft b e).1))
  have k3 : Kept (fun b => Value.ownBlock (.slice tA s.tx.length tc) = some b) w1 w3 := Kept.trans' (.of_ext hE) (.of_grown x3 (fun b e => e)); have K3 := k3.blk K1 (fun e => hng e); have hs2 := hE.size
  clear hE
  clear hL
  refine hK.out _ _ ⟨hP, fun e => absurd e (by simp)⟩ (fun hL => ?_)
  clear hK K
  refine wpAnyL_takeP (i := 8) (oi := { dst := some 27, op := Op.nilCheck (Operand.tmp 19), type := 0, pos := "box.go:37", after := #[{ on := 0, ground := Ground.data }, { on := 0, ground := Ground.phase }, { on := 1, ground := Ground.phase }, { on := 2, ground := Ground.phase }, { on := 3, ground := Ground.phase }, { on := 4, ground := Ground.phase }, { on := 5, ground := Ground.phase }, { on := 6, ground := Ground.phase }, { on := 7, ground := Ground.phase }], guard := none }) (v := ?vv8_7_8) rfl (by kernel_rfl) (by kernel_rfl) (by kernel_rfl) (by kernel_rfl) (fun _ _ _ h => h) (Or.inl ⟨by rfl, ?yy8_7_8⟩) hL (fun hL => ?_)
  case yy8_7_8 => (intro W hx; go_simp; try with_reducible rfl)
  simp only [Act.put, List.setIfInBounds_toArray, List.set_cons_zero, List.set_cons_succ]
  refine wpAnyL_takeP (i := 9) (oi := { dst := some 28, op := Op.fieldAddr 71 (Operand.tmp 27) 1, type := 0, pos := "box.go:37", after := #[{ on := 8, ground := Ground.data }, { on := 0, ground := Ground.phase }, { on := 1, ground := Ground.phase }, { on := 2, ground := Ground.phase }, { on := 3, ground := Ground.phase }, { on := 4, ground := Ground.phase }, { on := 5, ground := Ground.phase }, { on := 6, ground := Ground.phase }, { on := 7, ground := Ground.phase }], guard := none }) (v := ?vv9_7_9) rfl (by kernel_rfl) (by kernel_rfl) (by kernel_rfl) (by kernel_rfl) (fun _ _ _ h => h) (Or.inl ⟨by rfl, ?yy9_7_9⟩) hL (fun hL => ?_)
  case yy9_7_9 => (intro W hx; go_simp; try with_reducible rfl)
  simp only [Act.put, List.setIfInBounds_toArray, List.set_cons_zero, List.set_cons_succ]
  refine wpAnyL_ready (rs := [10]) (by kernel_rfl) (by simp) (AllReadyL.cons rfl (fun K hK => ?_) AllReadyL.nil)
  rw [if_pos (by rfl)]
  refine wp_stcell (o := { dst := none, op := Op.store 51 (Operand.tmp 28) (Operand.tmp 26), type := 0, pos := "box.go:37", after := #[{ on := 9, ground := Ground.data }, { on := 7, ground := Ground.data }, { on := 7, ground := Ground.chain }, { on := 0, ground := Ground.phase }, { on := 1, ground := Ground.phase }, { on := 2, ground := Ground.phase }, { on := 3, ground := Ground.phase }, { on := 4, ground := Ground.phase }, { on := 5, ground := Ground.phase }, { on := 6, ground := Ground.phase }, { on := 7, ground := Ground.phase }], guard := none }) 51 _ _ rfl K3 rfl rfl (by simp) size45 rfl (fun c e => by cases e) ?_; intro w4 K4 x4
  simp only [Act.put]
  replace hP := hP.trans' (Kept.of_grown x4 (fun b e => by injection e with e; subst e; exact HH.out.fg))
  clear hL
  refine hK.out _ _ ⟨hP, fun e => absurd e (by simp)⟩ (fun hL => ?_)
  clear hK K
  refine wpAnyL_done (by kernel_rfl) ?_ _
  go_wp2
  go_ret
  have hlen : (s.tx ++ [f]).length = s.tx.length + 1 := by simp
  refine ⟨rfl, BxPost.of xw (bx_set1 (.inl rfl) H1.out (s.tx ++ [f]) (A3 := some ⟨g3, 0, none⟩) (c3 := c3) (by rw [hlen, frs_app]; exact ow3) k3 (by rw [hlen]; exact at3.imp id (fun e b e2 => by rw [e] at e2; injection e2 with e2; omega)) (by rw [hlen]; exact K4) x4 ?_ (by omega))⟩
  intro y hy
  rcases List.mem_append.1 hy with hy | hy
  · exact HH.out.ok.tx y hy
  · simp at hy; subst hy; exact hf
theorem send_any {w : World} {g : Nat} {s : BSt} {F : Nat → Prop} (h : BxC w 71 g s F) (f : Fr) (hf : f.ok) : Calls Try.prog 13 #[.pointer (some ⟨g, 0, none⟩), .agg f.vals.toArray] w fun e w' => e = .returned (.int .i64 (s.send f).2) ∧ BxPost w 71 g (s.send f).1 F w' := by
  rcases hm : f.may with _ | _
  · exact send_no h f hm
  · by_cases hn : 3 ≤ s.tx.length
    · exact send_full h f hm hn
    · exact send_ok h f hf hm hn
end Go.Proofs.Ytjdabmadpclbaaa
