import Derived.Test.YtnbcmlphnllgeaaD
import Derived.Test.YtnbcmlphnllgeaaOwnS
set_option linter.unusedVariables false
set_option linter.unusedSimpArgs false
namespace Go.Proofs.Ytnbcmlphnllgeaa
open Go.RowKit
/-- a list that is laid. -/
structure Ls where
  first : Int
  A : Option Addr
  n : Nat
  c : Nat
  stim : Bool
  ev : Int
  pre : Int
  pri : Int
  on : Bool
  ch : Bool
def Ls.vals (x : Ls) : List Value := [.int .i64 x.first, .slice x.A x.n x.c, .bool x.stim, .int .u8 x.ev, .int .u8 x.pre, .int .u8 x.pri, .bool x.on, .bool x.ch]
structure Ls.ok (x : Ls) : Prop where
  le : x.n ≤ x.c
  cm : x.c ≤ maxLen
theorem ls_len (x : Ls) : x.vals.length = 8 := rfl
theorem ls_one (x : Ls) : ∀ u ∈ x.vals, u.oneCell' = true := by
  intro u hu
  simp [Ls.vals] at hu
  rcases hu with rfl | rfl | rfl | rfl | rfl | rfl | rfl | rfl <;> rfl
def lss (l : List Ls) : List Value := l.flatMap Ls.vals
theorem lss_len (l : List Ls) : (lss l).length = l.length * 8 := flat_len ls_len l
theorem lss_one (l : List Ls) : ∀ u ∈ lss l, u.oneCell' = true := by
  intro u hu
  simp only [lss, List.mem_flatMap] at hu
  obtain ⟨y, _, hu⟩ := hu
  exact ls_one y u hu
theorem lss_app (a b : List Ls) : lss (a ++ b) = lss a ++ lss b := by simp [lss]
theorem size45 : (Try.prog.info? 45).map (·.size) = some 8 := by kernel_rfl
theorem size35 : (Try.prog.info? 35).map (·.size) = some 3 := by kernel_rfl
theorem size69 : (Try.prog.info? 69).map (·.size) = some 4 := by kernel_rfl
theorem size33 : (Try.prog.info? 33).map (·.size) = some 1 := by kernel_rfl
theorem size30 : (Try.prog.info? 30).map (·.size) = some 1 := by kernel_rfl
theorem el22 : Elem Try.prog 22 45 8 40 (.agg #[.int .i64 0, .slice none 0 0, .bool false, .int .u8 0, .int .u8 0, .int .u8 0, .bool false, .bool false]) := Elem.mk' Try.underlying22 (by kernel_rfl) rfl (by omega)
theorem el65 : Elem Try.prog 65 69 4 40 (.agg #[.int .i64 0, .bool false, .bool false, .slice none 0 0]) := Elem.mk' Try.underlying65 (by kernel_rfl) rfl (by omega)
theorem el33 : Elem Try.prog 33 30 1 24 (.slice none 0 0) := Elem.mk' Try.underlying33 (by kernel_rfl) rfl (by omega)
theorem el30 : Elem Try.prog 30 5 1 1 (.int .u8 0) := Elem.mk' Try.underlying30 (by kernel_rfl) rfl (by omega)
/-- a slice of byte slices, all in blocks of F's. -/
structure BL (w : World) (F : Nat → Prop) (v : Value) (els : List (Value × List Int)) : Prop where
  row : w.ownsRow 0 30 1 v els.length (els.map (·.1))
  rF : ∀ b, v.ownBlock = some b → F b
  el : ∀ x ∈ els, w.ownsRow 0 5 1 x.1 x.2.length (u8s x.2) ∧ Byts x.2
  eF : ∀ x ∈ els, ∀ b, x.1.ownBlock = some b → F b ∧ v.ownBlock ≠ some b
theorem BL.nil (w : World) (F : Nat → Prop) : BL w F (.slice none 0 0) [] := ⟨⟨rfl, .inl ⟨rfl, rfl⟩⟩, fun b hb => by simp [Value.ownBlock] at hb, by simp, by simp⟩
section
variable {w w' : World} {F G : Nat → Prop} {v v' : Value} {els : List (Value × List Int)}
theorem BL.kept (h : BL w F v els) (k : Kept G w w') (hG : ∀ b, F b → ¬ G b) : BL w' F v els :=
  ⟨own_keptF h.row k (fun b e => hG b (h.rF b e)), h.rF, fun x hx => ⟨own_keptF (h.el x hx).1 k (fun b e => hG b (h.eF x hx b e).1), (h.el x hx).2⟩, h.eF⟩
theorem BL.ext (h : BL w F v els) (x : Ext w w') : BL w' F v els := h.kept (G := fun _ => False) (.of_ext x) (fun _ _ h => h)
theorem BL.mono (h : BL w F v els) (hF : ∀ b, b < w.heap.size → F b → G b) : BL w G v els :=
  ⟨h.row, fun b e => hF b (own_lt h.row e) (h.rF b e), h.el, fun x hx b e => ⟨hF b (own_lt (h.el x hx).1 e) (h.eF x hx b e).1, (h.eF x hx b e).2⟩⟩
theorem BL.form (h : BL w F v els) : ∃ A c, v = .slice A els.length c ∧ els.length ≤ c ∧ c ≤ maxLen := by
  obtain ⟨A, c, e, h1, h2, _⟩ := own_form h.row
  exact ⟨A, c, e, h1, h2⟩
/-- one that is made by a literal. -/
theorem BL.one {e : Value} {bs : List Int} {w1 : World} {m : Nat} (he : w1.ownsRow m 5 1 e bs.length (u8s bs)) (hb : Byts bs) (hm : w.heap.size ≤ m) (x : Ext w w1) (hw : w' = w1.alloc (.cells #[e] 30)) : BL w' (fun b => w.heap.size ≤ b) (.slice (some ⟨w1.heap.size, 0, none⟩) 1 1) [(e, bs)] := by
  subst hw
  have x1 : Ext w1 (w1.alloc (.cells #[e] 30)) := (Ext.refl _).alloc _
  have own : (w1.alloc (.cells #[e] 30)).ownsRow 0 30 1 (.slice (some ⟨w1.heap.size, 0, none⟩) 1 1) 1 [e] := World.ownsRow_lit w1 #[e] 1 (Nat.zero_le _) (le_max (by omega)) rfl
  refine ⟨own, fun b hb => by simp [Value.ownBlock] at hb; have := x.size; omega, fun y hy => ?_, fun y hy b hb => ?_⟩
  · simp at hy; subst hy
    exact ⟨own_base (own_ext he x1) (Nat.zero_le _), hb⟩
  · simp at hy; subst hy
    obtain ⟨h1, h2⟩ := he.lt b hb
    exact ⟨by omega, by simp [Value.ownBlock]; omega⟩
/-- one more. -/
theorem BL.app {e : Value} {bs : List Int} {w1 w2 : World} {m : Nat} (h : BL w F v els) (x : Ext w w1) (he : w1.ownsRow m 5 1 e bs.length (u8s bs)) (hb : Byts bs) (hm : w.heap.size ≤ m)
    (own : w2.ownsRow 0 30 1 v' (els.length + 1) (els.map (·.1) ++ [e])) (gr : w1.grownBy w2 v.ownBlock) (hat : v'.ownBlock = v.ownBlock ∨ v'.ownBlock = some w1.heap.size) : BL w2 (fun b => F b ∨ w.heap.size ≤ b) v' (els ++ [(e, bs)]) := by
  have k : Kept (fun b => v.ownBlock = some b) w1 w2 := .of_grown gr (fun b e => e)
  have h1 := h.ext x
  have sx := x.size
  refine ⟨by rw [List.length_append, List.map_append]; exact own, fun b e => ?_, fun y hy => ?_, fun y hy b hb' => ?_⟩
  · rcases hat with a | a
    · exact .inl (h.rF b (by rw [← a]; exact e))
    · rw [a] at e; injection e with e; exact .inr (by omega)
  · rcases List.mem_append.1 hy with hy | hy
    · exact ⟨own_keptF (h1.el y hy).1 k (fun b e hb => (h1.eF y hy b e).2 hb), (h1.el y hy).2⟩
    · simp at hy; subst hy
      exact ⟨own_base (own_keptF he k (fun b e hb => by have := (he.lt b e).1; have := own_lt h.row hb; omega)) (Nat.zero_le _), hb⟩
  · rcases List.mem_append.1 hy with hy | hy
    · refine ⟨.inl (h1.eF y hy b hb').1, fun e => ?_⟩
      rcases hat with a | a
      · exact (h1.eF y hy b hb').2 (by rw [← a]; exact e)
      · rw [a] at e; injection e with e; have := own_lt (h1.el y hy).1 hb'; omega
    · simp at hy; subst hy
      obtain ⟨a1, a2⟩ := he.lt b hb'
      refine ⟨.inr (by omega), fun e => ?_⟩
      rcases hat with a | a
      · rw [a] at e; have := own_lt h.row e; omega
      · rw [a] at e; injection e with e; omega
end
/-- a list of a Gather. -/
structure Gl where
  tables : Nat
  stim : Bool
  lost : Bool
  v : Value
  els : List (Value × List Int)
/-- what it means. -/
structure Gp where
  tables : Nat
  stim : Bool
  lost : Bool
  came : List (List Int)
def Gl.vals (x : Gl) : List Value := [.int .i64 (x.tables : Int), .bool x.stim, .bool x.lost, x.v]
def Gl.p (x : Gl) : Gp := ⟨x.tables, x.stim, x.lost, x.els.map (·.2)⟩
theorem gl_len (x : Gl) : x.vals.length = 4 := rfl
def gls (l : List Gl) : List Value := l.flatMap Gl.vals
theorem gls_app (a b : List Gl) : gls (a ++ b) = gls a ++ gls b := by simp [gls]
theorem gls_set : ∀ {l : List Gl} {k : Nat} {x x' : Gl} {r : Nat} {u : Value}, l[k]? = some x → r < 4 → x'.vals = x.vals.set r u → (gls l).set (k * 4 + r) u = gls (l.set k x')
  | [], _, _, _, _, _, h, _, _ => by simp at h
  | y :: l, 0, x, x', r, u, h, hr, hv => by
    simp at h
    subst h
    simp only [gls, List.flatMap_cons, List.set_cons_zero, Nat.zero_mul, Nat.zero_add]
    rw [List.set_append_left _ _ (by rw [gl_len]; exact hr), hv]
  | y :: l, k + 1, x, x', r, u, h, hr, hv => by
    have ih := gls_set (l := l) (k := k) (by simpa using h) hr hv
    simp only [gls] at ih
    simp only [gls, List.flatMap_cons, List.set_cons_succ]
    rw [List.set_append_right _ _ (by rw [gl_len]; omega), gl_len, ← ih, show (k + 1) * 4 + r - 4 = k * 4 + r by omega]
structure GaC (w : World) (g : Nat) (ls : List Gl) (lv : Value) (T : Nat → Option Nat) : Prop where
  obj : w.heap[g]? = some (.cells #[lv] 67 (0, 0))
  g0 : T g = some 0
  row : w.ownsRow 0 69 4 lv ls.length (gls ls)
  rT : ∀ b, lv.ownBlock = some b → T b = some 1
  bl : ∀ i x, ls[i]? = some x → BL w (fun b => T b = some (i + 2)) x.v x.els
  lt : ∀ b t, T b = some t → b < w.heap.size
  tb : ∀ x ∈ ls, x.tables ≤ 100000 ∧ x.els.length ≤ 100000
  len : ls.length ≤ 100
section
variable {w w' w2 : World} {g : Nat} {ls : List Gl} {lv : Value} {T : Nat → Option Nat} {F : Nat → Prop} {i : Nat} {x : Gl}
theorem GaC.kept (h : GaC w g ls lv T) (k : Kept F w w') (hF : ∀ b t, T b = some t → ¬ F b) : GaC w' g ls lv T :=
  ⟨k.blk h.obj (hF g 0 h.g0), h.g0, own_keptF h.row k (fun b e => hF b 1 (h.rT b e)), h.rT, fun i x hi => (h.bl i x hi).kept k (fun b e => hF b _ e), fun b t e => Nat.lt_of_lt_of_le (h.lt b t e) k.size, h.tb, h.len⟩
theorem GaC.ext (h : GaC w g ls lv T) (x : Ext w w') : GaC w' g ls lv T := h.kept (F := fun _ => False) (.of_ext x) (fun _ _ _ h => h)
/-- a list's cells. -/
theorem GaC.at_ (h : GaC w g ls lv T) (hi : ls[i]? = some x) : ∃ rb c, lv = .slice (some ⟨rb, 0, none⟩) ls.length c ∧ T rb = some 1 ∧ ls.length ≤ c ∧ c ≤ maxLen ∧
    w.rangeAt rb (i * 4) x.vals ∧ w.cell? ⟨rb, i * 4, none⟩ = some (.int .i64 (x.tables : Int)) ∧ w.cell? ⟨rb, i * 4 + 1, none⟩ = some (.bool x.stim) ∧ w.cell? ⟨rb, i * 4 + 2, none⟩ = some (.bool x.lost) ∧ w.cell? ⟨rb, i * 4 + 3, none⟩ = some x.v ∧
    w.frozen? ⟨rb, i * 4 + 2, none⟩ = false ∧ w.frozen? ⟨rb, i * 4 + 3, none⟩ = false := by
  have hil : i < ls.length := (List.getElem?_eq_some_iff.1 hi).1
  obtain ⟨rb, c, e, h1, h2⟩ := h.row.form (by omega)
  obtain ⟨_, _, e3, hr⟩ := Shows.row gl_len (by omega) (Shows.of_own (by rw [e] at h; exact h.row)) rfl hi
  injection e3 with e3
  injection e3 with e3 e4
  subst e3 e4
  simp only [Nat.zero_add] at hr
  refine ⟨rb, c, e, h.rT rb (by rw [e]; rfl), ?_, ?_, hr.2, hr.2 0 _ rfl, hr.2 1 _ rfl, hr.2 2 _ rfl, hr.2 3 _ rfl, ?_, ?_⟩
  all_goals first
    | (obtain ⟨g1, c1, e1, _, _, f1, _, _⟩ := own_set h.row (i := i * 4 + 2) (by omega) (.bool false); rw [e] at e1; injection e1 with e1 _ _; injection e1 with e1; injection e1 with e1; subst e1; exact f1)
    | (obtain ⟨g1, c1, e1, _, _, f1, _, _⟩ := own_set h.row (i := i * 4 + 3) (by omega) (.bool false); rw [e] at e1; injection e1 with e1 _ _; injection e1 with e1; injection e1 with e1; subst e1; exact f1)
    | (obtain ⟨A, c', e', h5, h6, _⟩ := own_form h.row; rw [e] at e'; injection e' with _ _ e'; omega)
end
end Go.Proofs.Ytnbcmlphnllgeaa
