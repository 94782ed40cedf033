import Derived.Test.YtnbcmlphnllgeaaGH
import Derived.Deep.OwnRows
set_option linter.unusedVariables false
set_option linter.unusedSimpArgs false
namespace Go.Proofs.Ytnbcmlphnllgeaa
open Go.RowKit
/-- a Gather whose blocks are among F's: what is not stays. -/
def Gf (F : Nat → Prop) (w0 w : World) (g : Nat) (gp : List Gp) : Prop := Kept F w0 w ∧ (∀ b, w0.heap.size ≤ b → F b) ∧ ∃ ls lv T, GaC w g ls lv T ∧ ls.map Gl.p = gp ∧ ∀ b, T b ≠ none → F b
section
variable {F : Nat → Prop} {w0 w w1 : World} {g : Nat} {gp : List Gp}
theorem Gf.ext (h : Gf F w0 w g gp) (x : Ext w w1) : Gf F w0 w1 g gp := by
  obtain ⟨h1, h2, ls, lv, T, h3, h4⟩ := h
  exact ⟨h1.then x, h2, ls, lv, T, h3.ext x, h4⟩
theorem Gf.re (h : Gf F w0 w g gp) : Gf F w w g gp := by
  obtain ⟨k, up, rest⟩ := h
  exact ⟨Kept.refl _ _, fun b hb => up b (Nat.le_trans k.size hb), rest⟩
/-- what was laid, or written, since is not the Gather's. -/
theorem Gf.wr {G : Nat → Prop} (h : Gf F w w g gp) (k : Kept G w w1) (hG : ∀ b, b < w.heap.size → G b → ¬ F b) : Gf (fun b => F b ∧ ¬ (w.heap.size ≤ b ∧ b < w1.heap.size)) w1 w1 g gp := by
  obtain ⟨_, up, ls, lv, T, q, hp, hT⟩ := h
  have sz := k.size
  exact ⟨Kept.refl _ _, fun b hb => ⟨up b (by omega), fun h => by omega⟩, ls, lv, T, q.kept k (fun b t hb hg => hG b (q.lt b t hb) hg (hT b (by rw [hb]; simp))), hp, fun b hb => ⟨hT b hb, fun h => by
    obtain ⟨t, ht⟩ := Option.ne_none_iff_exists'.1 hb
    have := q.lt b t ht
    omega⟩⟩
theorem Gf.sub (h : Gf F w w g gp) : F g ∧ g < w.heap.size := by
  obtain ⟨_, up, ls, lv, T, q, hp, hT⟩ := h
  exact ⟨hT g (by rw [q.g0]; simp), q.lt g 0 q.g0⟩
theorem new_f {A : Option Addr} {n : Nat} (c : Nat) {l : List Ls} (hs : Shows w 8 A n (lss l)) (hn : n = l.length) (hn100 : n ≤ 100) (hok : ∀ x ∈ l, x.ok ∧ x.n ≤ 100000) :
    Calls Try.prog 11 #[.slice A n c] w fun e w' => ∃ g, e = .returned (.pointer (some ⟨g, 0, none⟩)) ∧ Ext w w' ∧ Gf (fun b => w.heap.size ≤ b) w' w' g (l.map newGp) := by
  refine (new_any c hs hn hn100 hok).mono ?_
  rintro e w' ⟨g, ls, lv, T, h1, h2, h3, h4, h5⟩
  exact ⟨g, h1, h2, Kept.refl _ _, fun b hb => Nat.le_trans h2.size hb, ls, lv, T, h3, h4, h5⟩
theorem take_f (h : Gf F w0 w g gp) (x : Ext w w1) (kind : Int) {code : Int} (hc : 0 ≤ code ∧ code < 256) {A : Option Addr} {n : Nat} (c : Nat) {bs : List Int} (hr : Rd w1 A n bs) (hn : n ≤ 100000) :
    Calls Try.prog 13 #[.pointer (some ⟨g, 0, none⟩), .agg #[.int .u8 kind, .int .u8 code, .slice A n c]] w1 fun e w' => ∃ (s : Sm) (els : List (Value × List Int)) (S : Nat → Prop),
      e = .returned (.tuple #[.agg s.vals.toArray, .bool (takeG gp kind code bs).1.isSome]) ∧ Gf F w0 w' g (takeG gp kind code bs).2 ∧ Gf (fun b => F b ∧ ¬ S b) w' w' g (takeG gp kind code bs).2 ∧ SmIs w' S s els (takeG gp kind code bs).1 ∧ ∀ b, S b → F b ∧ b < w'.heap.size := by
  obtain ⟨k, up, ls, lv, T, q, rfl, hT⟩ := h
  refine (take_any (q.ext x) kind hc c hr hn).mono ?_
  rintro e w' ⟨s, els, ls', T', S, h1, ⟨h2, h3, h4⟩, h5, h6, h7⟩
  have kx := k.then x
  have hT' : ∀ b, T' b ≠ none → F b := fun b hb => (h4 b hb).elim (hT b) (fun h => up b (Nat.le_trans kx.size h))
  have kw := kx.trans h3 (fun i _ hi => hT i hi)
  exact ⟨s, els, S, h1, ⟨kw, up, ls', lv, T', h2, h5, hT'⟩, ⟨Kept.refl _ _, fun b hb => ⟨up b (Nat.le_trans kw.size hb), fun hs => by have := (h7 b hs).2.1; omega⟩, ls', lv, T', h2, h5, fun b hb => ⟨hT' b hb, fun hs => hb (h7 b hs).1⟩⟩, h6, fun b hs => ⟨(h7 b hs).2.2.elim (hT b) (fun h => up b (Nat.le_trans kx.size h)), (h7 b hs).2.1⟩⟩
end
theorem sm_one {w : World} {S : Nat → Prop} {s : Sm} {els : List (Value × List Int)} {o : Option (Nat × Bool × List (List Int))} (h : SmIs w S s els o) : ∀ u ∈ s.vals, u.oneCell' = true := by
  obtain ⟨A, c, e, _, _⟩ := h.1.form
  intro u hu
  simp only [Sm.vals, List.mem_cons, List.not_mem_nil, or_false] at hu
  rcases hu with rfl | rfl | rfl
  · rfl
  · rfl
  · rw [e]; rfl
theorem wpList_ldrowG {P : Program} {w : World} {ops : Array Oper} {rest : List Oper} {o : Oper} {a : Act} {Q : Exit → Act → World → Prop} (hw : Region.wanted o (yielded ops a.tmps) = true) (ty : TypeId) (x : Operand) (ho : o.op = .load ty x)
    {g : Nat} {cs : Array Value} {t : TypeId} {fr : Nat × Nat} (hg : w.heap[g]? = some (.cells cs t fr)) (hx : a.eval x = .pointer (some ⟨g, 0, none⟩)) {d : TypeDesc}
    (hu : P.underlying ty = some d) (hd : (match d with | .struct _ | .array _ _ => true | _ => false) = true) (hi : (P.info? ty).map (·.size) = some cs.size)
    (h : wpList P ops Q rest (a.put o.dst (.agg cs)) w) : wpList P ops Q (o :: rest) a w :=
  BigFrame.wpList_want hw fun _ hK => wp_load_row ty x ho g hx t cs fr d hg hu hd hi (hK _ _ h)
theorem mk_43 (n : Nat) (hn : n ≤ 1000) (w : World) : (Instr.makeSlice 43 (.int .i64 (n : Int)) (.int .i64 (n : Int))).run Try.prog w = .ok (.slice (some ⟨w.heap.size, 0, none⟩) n n) (w.alloc (.cells (madeCells #[.slice none 0 0] n) 96)) :=
  run_make_row' (P := Try.prog) 43 96 (.slice none 0 0) 24 Try.underlying43 (by kernel_rfl) rfl .i64 .i64 n (by omega) (by omega) w
theorem ls_new {w : World} (x : Ls) (t : TypeId) : Shows (w.alloc (.cells x.vals.toArray t)) 8 (some ⟨w.heap.size, 0, none⟩) 1 (lss [x]) := by
  have e : lss [x] = x.vals := by simp [lss]
  rw [e]
  exact ⟨rfl, fun _ => ⟨_, rfl, by simp, World.news_of_block (heap_alloc_new w _)⟩⟩
/-- a list of n tables, in no other respect told. -/
def lsN (A : Option Addr) (n : Nat) : Ls := ⟨0, A, n, n, false, 0, 0, 0, false, false⟩
theorem sm_vals {w : World} {S : Nat → Prop} {i : Nat} {lo : Bool} {s : Sm} {els : List (Value × List Int)} {ca : List (List Int)} (h : SmIs w S s els (some (i, lo, ca))) : ∃ A c, s.vals.toArray = #[.int .i64 (i : Int), .bool lo, .slice A els.length c] ∧ BL w S (.slice A els.length c) els ∧ els.map (·.2) = ca ∧ els.length = ca.length := by
  obtain ⟨hB, h1, h2, h3⟩ := h
  obtain ⟨A, c, e, _, _⟩ := hB.form
  refine ⟨A, c, by unfold Sm.vals; rw [h1, h2, e], by rw [← e]; exact hB, h3, by rw [← h3, List.length_map]⟩
theorem bl_two (w : World) (x y : Int) (hx : 0 ≤ x ∧ x < 256) (hy : 0 ≤ y ∧ y < 256) : ∃ w1 w2 w3 : World, w1 = w.alloc (.cells #[.int .u8 x] 5) ∧ w2 = w1.alloc (.cells #[.int .u8 y] 5) ∧ w3 = w2.alloc (.cells #[.slice (some ⟨w.heap.size, 0, none⟩) 1 1, .slice (some ⟨w.heap.size + 1, 0, none⟩) 1 1] 30) ∧ Ext w w3 ∧
    w3.heap.size = w.heap.size + 3 ∧ BL w3 (fun _ => True) (.slice (some ⟨w.heap.size + 2, 0, none⟩) 2 2) [(.slice (some ⟨w.heap.size, 0, none⟩) 1 1, [x]), (.slice (some ⟨w.heap.size + 1, 0, none⟩) 1 1, [y])] := by
  obtain ⟨w1, hw1⟩ : ∃ V, V = w.alloc (.cells #[.int .u8 x] 5) := ⟨_, rfl⟩
  obtain ⟨w2, hw2⟩ : ∃ V, V = w1.alloc (.cells #[.int .u8 y] 5) := ⟨_, rfl⟩
  obtain ⟨w3, hw3⟩ : ∃ V, V = w2.alloc (.cells #[.slice (some ⟨w.heap.size, 0, none⟩) 1 1, .slice (some ⟨w.heap.size + 1, 0, none⟩) 1 1] 30) := ⟨_, rfl⟩
  have x1 : Ext w w1 := by rw [hw1]; exact (Ext.refl _).alloc _
  have x2 : Ext w1 w2 := by rw [hw2]; exact (Ext.refl _).alloc _
  have x3 : Ext w2 w3 := by rw [hw3]; exact (Ext.refl _).alloc _
  have s1 : w1.heap.size = w.heap.size + 1 := by rw [hw1]; exact Array.size_push _
  have s2 : w2.heap.size = w.heap.size + 2 := by rw [hw2, ← show w1.heap.size + 1 = w.heap.size + 2 by omega]; exact Array.size_push _
  have s3 : w3.heap.size = w.heap.size + 3 := by rw [hw3, ← show w2.heap.size + 1 = w.heap.size + 3 by omega]; exact Array.size_push _
  have o1 : w1.ownsRow 0 5 1 (.slice (some ⟨w.heap.size, 0, none⟩) 1 1) 1 (u8s [x]) := by rw [hw1]; exact World.ownsRow_lit w #[.int .u8 x] 1 (Nat.zero_le _) (le_max (by omega)) rfl
  have o2 : w2.ownsRow 0 5 1 (.slice (some ⟨w.heap.size + 1, 0, none⟩) 1 1) 1 (u8s [y]) := by rw [hw2, ← s1]; exact World.ownsRow_lit w1 #[.int .u8 y] 1 (Nat.zero_le _) (le_max (by omega)) rfl
  have o3 : w3.ownsRow 0 30 1 (.slice (some ⟨w.heap.size + 2, 0, none⟩) 2 2) 2 [.slice (some ⟨w.heap.size, 0, none⟩) 1 1, .slice (some ⟨w.heap.size + 1, 0, none⟩) 1 1] := by rw [hw3, ← s2]; exact World.ownsRow_lit w2 #[.slice (some ⟨w.heap.size, 0, none⟩) 1 1, .slice (some ⟨w.heap.size + 1, 0, none⟩) 1 1] 2 (Nat.zero_le _) (le_max (by omega)) rfl
  refine ⟨w1, w2, w3, hw1, hw2, hw3, x1.trans (x2.trans x3), s3, o3, fun _ _ => trivial, fun e he => ?_, fun e he b hb => ⟨trivial, fun h => ?_⟩⟩
  · simp at he
    rcases he with rfl | rfl
    · exact ⟨own_ext o1 (x2.trans x3), by intro b hb; simp at hb; subst hb; exact hx⟩
    · exact ⟨own_ext o2 x3, by intro b hb; simp at hb; subst hb; exact hy⟩
  · simp at he
    simp only [Value.ownBlock, Option.some.injEq] at h
    rcases he with rfl | rfl
    · simp only [Value.ownBlock, Option.some.injEq] at hb; omega
    · simp only [Value.ownBlock, Option.some.injEq] at hb; omega
set_option maxRecDepth 100000 in
set_option maxHeartbeats 8000000 in
theorem shown_any (w : World) : Calls Try.prog 9 #[] w fun e w' => e = .returned (.bool true) ∧ Ext w w' := by
  have hmk : ∀ W : World, (Instr.makeSlice 43 (.int .i64 2) (.int .i64 2)).run Try.prog W = .ok (.slice (some ⟨W.heap.size, 0, none⟩) 2 2) (W.alloc (.cells (madeCells #[.slice none 0 0] 2) 96)) := mk_43 2 (by omega)
  go_enter Try.func9, Try.ntmps9
  obtain ⟨w0, hw0⟩ : ∃ V, V = w.alloc (.cells (madeCells #[.slice none 0 0] 2) 96) := ⟨_, rfl⟩
  have x0 : Ext w w0 := by rw [hw0]; exact (Ext.refl _).alloc _
  have hs0 : w0.heap.size = w.heap.size + 1 := by rw [hw0]; exact Array.size_push _
  obtain ⟨w1, hw1⟩ : ∃ V, V = w0.alloc (.cells (lsN (some ⟨w.heap.size, 0, none⟩) 2).vals.toArray 45) := ⟨_, rfl⟩
  have x1 : Ext w0 w1 := by rw [hw1]; exact (Ext.refl _).alloc _
  have sh1 : Shows w1 8 (some ⟨w.heap.size + 1, 0, none⟩) 1 (lss [lsN (some ⟨w.heap.size, 0, none⟩) 2]) := by rw [hw1, ← hs0]; exact ls_new _ _
  have HC := Lib.hid (new_f 1 sh1 rfl (by omega) (fun x hx => by simp at hx; subst hx; exact ⟨⟨Nat.le_refl _, le_max (n := 2) (by omega)⟩, by show 2 ≤ 100000; omega⟩))
  clear sh1 hs0
  go_upto_region 2 with (go_at_call 11; go_loud (rw [← hw0, show w0.alloc (.cells #[.int .i64 0, .slice (some ⟨w.heap.size, 0, none⟩) 2 2, .bool false, .int .u8 0, .int .u8 0, .int .u8 0, .bool false, .bool false] 45) = w1 from hw1.symm]; (refine HC.out.mono ?_)); rintro e w2 ⟨g, rfl, x2, G2⟩)
  have HG2 := Lib.hid G2
  clear G2 hmk
  have HP1 := Lib.hid (show takeG ([lsN (some ⟨w.heap.size, 0, none⟩) 2].map newGp) 4 1 [] = (none, [⟨2, false, false, []⟩]) from rfl)
  have HP2 := Lib.hid (show takeG [⟨2, false, false, []⟩] 4 0 [5] = (none, [⟨2, false, false, [[5]]⟩]) from rfl)
  have HP3 := Lib.hid (show takeG [⟨2, false, false, [[5]]⟩] 4 1 [6] = (some (0, false, [[5], [6]]), [⟨2, false, false, []⟩]) from rfl)
  have HX2 := Lib.hid (x0.trans (x1.trans x2))
  have HLE := Lib.hid (x0.trans x1).size
  clear x0 x1 x2
  go_upto_region 3 with (first
    | (go_at_call 13; (refine (take_f HG2.out (Ext.refl _) 4 (code := 1) (by decide) 0 Rd.nil (by omega)).mono ?_); rw [HP1.out]; rintro e w3 ⟨s3, els3, S3, rfl, G3, -, hs3, -⟩)
    | refine wpList_stnew rfl 35 _ _ rfl rfl s3.vals rfl rfl size35 rfl (sm_one hs3) ?_)
  obtain ⟨w4, hw4⟩ : ∃ V, V = w3.alloc (.cells s3.vals.toArray 35) := ⟨_, rfl⟩
  have x4 : Ext w3 w4 := by rw [hw4]; exact (Ext.refl _).alloc _
  rw [← hw4]
  have HG4 := Lib.hid (G3.ext x4)
  clear hw4 G3 hs3 x4
  obtain ⟨w5, hw5⟩ : ∃ V, V = w4.alloc (.cells #[.int .u8 5] 5) := ⟨_, rfl⟩
  have x5 : Ext w4 w5 := by rw [hw5]; exact (Ext.refl _).alloc _
  have r5 : Rd w5 (some ⟨w4.heap.size, 0, none⟩) 1 [5] := by rw [hw5]; exact rd_new (cs := [5]) 5 rfl (by intro b hb; simp at hb; subst hb; omega)
  go_upto_region 4 with (first
    | (go_at_call 13; rw [← hw5]; (refine (take_f HG4.out x5 4 (code := 0) (by decide) 1 r5 (by omega)).mono ?_); rw [HP2.out]; rintro e w6 ⟨s6, els6, S6, rfl, G6, -, hs6, -⟩)
    | refine wpList_stnew rfl 35 _ _ rfl rfl s6.vals rfl rfl size35 rfl (sm_one hs6) ?_)
  obtain ⟨w7, hw7⟩ : ∃ V, V = w6.alloc (.cells s6.vals.toArray 35) := ⟨_, rfl⟩
  have x7 : Ext w6 w7 := by rw [hw7]; exact (Ext.refl _).alloc _
  rw [← hw7]
  have HG7 := Lib.hid (G6.ext x7)
  clear hw7 G6 hs6 x7 r5 hw5 x5
  obtain ⟨w8, hw8⟩ : ∃ V, V = w7.alloc (.cells #[.int .u8 6] 5) := ⟨_, rfl⟩
  have x8 : Ext w7 w8 := by rw [hw8]; exact (Ext.refl _).alloc _
  have r8 : Rd w8 (some ⟨w7.heap.size, 0, none⟩) 1 [6] := by rw [hw8]; exact rd_new (cs := [6]) 5 rfl (by intro b hb; simp at hb; subst hb; omega)
  go_upto_region 5 with (first
    | (go_at_call 13; rw [← hw8]; (refine (take_f HG7.out x8 4 (code := 1) (by decide) 1 r8 (by omega)).mono ?_); rw [HP3.out]; rintro e w9 ⟨s9, els9, S9, rfl, G9, -, hs9, -⟩)
    | refine wpList_stnew rfl 35 _ _ rfl rfl s9.vals rfl rfl size35 rfl (sm_one hs9) ?_)
  obtain ⟨A9, c9, hv9, hB9, he9, hl9⟩ := sm_vals hs9
  rw [hv9]
  obtain ⟨wa, hwa⟩ : ∃ V, V = w9.alloc (.cells #[.int .i64 ((0 : Nat) : Int), .bool false, .slice A9 els9.length c9] 35) := ⟨_, rfl⟩
  have xa : Ext w9 wa := by rw [hwa]; exact (Ext.refl _).alloc _
  have ka : wa.heap[w9.heap.size]? = some (.cells #[.int .i64 ((0 : Nat) : Int), .bool false, .slice A9 els9.length c9] 35 (0, 0)) := by rw [hwa]; exact heap_alloc_new _ _
  rw [← hwa]
  have HX9 := Lib.hid (HX2.out.kept G9.1 (fun b hb => Nat.le_trans HLE.out hb))
  have hl2 : els9.length = 2 := hl9
  have HE9 := Lib.hid (And.intro (hB9.ext xa) (And.intro he9 hl9))
  have HXA := Lib.hid xa
  clear hwa G9 hs9 r8 hw8 x8 hB9 he9 hl9 hl2 xa hv9
  obtain ⟨b1, b2, b3, h1, h2, h3, xb, sb, BLb⟩ := bl_two wa 5 6 (by decide) (by decide)
  have HB := Lib.hid (And.intro h1 (And.intro h2 (And.intro h3 (And.intro xb BLb))))
  clear h1 h2 h3 xb BLb sb
  go_wp2_with (first
    | (go_at_call 15; go_loud (rw [← HB.out.1, ← HB.out.2.1, ← HB.out.2.2.1]; (refine (same_true (i := 0) (lo := false) c9 2 (HE9.out.1.ext HB.out.2.2.2.1) HB.out.2.2.2.2 rfl rfl (by have := HE9.out.2.2; simp at this; omega) (by rw [HE9.out.2.1]; rfl)).mono ?_)); rintro e w' ⟨rfl, x'⟩)
    | refine wpList_ldrowG rfl 35 (.tmp 6) rfl ka rfl Try.underlying35 rfl size35 ?_)
  go_ret
  exact ⟨by simp, HX9.out.trans (HXA.out.trans (HB.out.2.2.2.1.trans x'))⟩
end Go.Proofs.Ytnbcmlphnllgeaa
